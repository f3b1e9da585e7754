/- The walk of MvccStamps. -/
import Derived.Test.YtiooacaplajidaaMo
namespace Go.Proofs.Ytiooacaplajidaa
open Go.RowKit
set_option maxRecDepth 100000
set_option linter.unusedVariables false
set_option linter.unusedSimpArgs false

/-- A row of numbers. -/
def IntsIn (w : World) (a : Option Addr) (L : List Int) : Prop := ∀ (i : Nat) (x : Int), L[i]? = some x → ∃ g off, a = some ⟨g, off, none⟩ ∧ g < w.heap.size ∧ w.cell? ⟨g, off + i, none⟩ = some (.int .i64 x)
theorem no_cross {s : St} {x : Tx} (h : Inv s) (hx : x.snap = s.last) : ¬ Crosses s x := by
  rintro ⟨k, hk, _, hlt⟩
  rw [hx] at hlt
  cases hs : s.st k with
  | none => rw [hs] at hlt; have := h.l0; simp at hlt; omega
  | some v => rw [hs] at hlt; have := h.sl k v hk hs; simp at hlt; omega
def StI (w wr : World) (bs mb n : Nat) (v4 i : Value) : Prop := ∃ (j : Nat) (l : Int) (s : St), j ≤ n ∧ i = .int .i64 (j : Int) ∧ v4 = .int .i64 l ∧ MG wr bs mb (2 * j) 0 s ∧ s.last = l ∧ l < 1099511627776 ∧ (∀ u, s.act u = none) ∧ s.begun = j ∧ Fr w wr (fun k => bs ≤ k)
set_option maxHeartbeats 8000000 in
theorem stamps_walk (HAC : Hid ActiveNone) {w : World} (a : Option Addr) (n c : Nat) (L : List Int) (hL : IntsIn w a L) (hn : L.length = n) (hnb : n ≤ 70368744177664) :
    Calls Try.prog 6 #[.slice a n c] w fun x w' => x = .returned (.bool true) ∧ Fr w w' (fun _ => False) := by
  have HL := hide hL
  have HN := hide hn
  clear hL hn
  go_enter Try.func6, Try.ntmps6
  go_wp2_with fail
  refine (awake_any HAC w).mono ?_
  rintro e W1 ⟨rfl, f1⟩
  have F1 := hide f1
  clear f1
  go_wp2_with fail
  refine (mg_new W1 0 0).mono ?_
  rintro e W2 ⟨rfl, h2, f2⟩
  obtain ⟨mb, hmb⟩ : ∃ mb, W1.heap.size + 2 = mb := ⟨_, rfl⟩
  obtain ⟨bs, hbs⟩ : ∃ bs, W1.heap.size = bs := ⟨_, rfl⟩
  rw [hmb] at h2 ⊢
  rw [hbs] at h2
  rw [show lastP 0 = 0 by decide, show begunP 0 = 0 by decide] at h2
  have H2 := hide h2
  have HBS : Hid (w.heap.size ≤ bs) := hide (by have := F1.out.size; omega)
  have F2 := hide ((F1.out.two f2).mono (Y := fun k => bs ≤ k) (fun _ _ h => h.elim))
  clear h2 f2 hmb hbs F1
  go_wp2_with fail
  go_loopw [4, 17] (fun v4 i wr => StI w wr bs mb n v4 i) (fun _ i _ => n - (intOf i).toNat)
  case atStart => exact ⟨0, 0, s0 0 0 bs, Nat.zero_le _, rfl, rfl, H2.out, rfl, by decide, fun _ => rfl, rfl, F2.out⟩
  case round =>
    rename World => W
    obtain ⟨j, l, s, hj, rfl, rfl, hm, hl, hlf, hno, hbg, hf⟩ := hrel
    have HM := hide hm
    have HLS := hide hl
    have HNO := hide hno
    have HBG := hide hbg
    have HF := hide hf
    clear hm hl hno hbg hf H2 F2
    rcases Nat.lt_or_ge j n with hlt | hge
    · obtain ⟨x, hx⟩ : ∃ x, L[j]? = some x := ⟨_, List.getElem?_eq_getElem (by rw [HN.out]; exact hlt)⟩
      obtain ⟨g, off, hg, hgl, hc⟩ := HL.out j x hx
      have hc2 := HF.out.cell (by have := HBS.out; omega) hc
      subst hg
      clear hx hc hgl
      go_wp2_with fail
      clear hc2
      refine (mg_tick HM.out x).mono ?_
      rintro e W3 ⟨rfl, h3, f3⟩
      obtain ⟨nw, hnw⟩ : ∃ nw, tickP s.now x = nw := ⟨_, rfl⟩
      rw [hnw] at h3
      have H3 := hide h3
      have F3 := hide ((HF.out.trans f3).mono (Y := fun k => bs ≤ k) (fun _ _ h => h.elim id id))
      clear h3 f3 hnw
      go_wp2_with fail
      refine (mg_now H3.out).mono ?_
      rintro e W3' ⟨rfl, hw3⟩
      rw [hw3]
      rw [show ({ s with now := nw } : St).now = nw from rfl]
      clear hw3 W3'
      go_wp2_with fail
      refine (mg_begin H3.out (by show s.begun ≤ _; rw [HBG.out]; omega) (by omega)).mono ?_
      rintro e W4 ⟨rfl, ⟨kb, pb, h4⟩, f4⟩
      rw [show ({ s with now := nw } : St).begun + 1 = (j : Int) + 1 by show s.begun + 1 = _; rw [HBG.out]] at h4 ⊢
      rw [show ({ s with now := nw } : St).last = l from HLS.out]
      obtain ⟨S4, hS4⟩ : ∃ S, begS ({ s with now := nw } : St) ((j : Int) + 1) kb pb = S := ⟨_, rfl⟩
      have a1 : S4.act ((j : Int) + 1) = some ⟨l, pb, kb, fun _ => none, 0⟩ := by rw [← hS4, ← HLS.out]; simp [begS]
      have a2 : ∀ u, u ≠ (j : Int) + 1 → S4.act u = none := by intro u hu; rw [← hS4]; simp [begS, hu, HNO.out u]
      have a3 : S4.now = nw ∧ S4.last = l ∧ S4.begun = (j : Int) + 1 := by rw [← hS4]; exact ⟨rfl, HLS.out, rfl⟩
      rw [hS4] at h4
      have H4 := hide h4
      have F4 := hide ((F3.out.trans f4).mono (Y := fun k => bs ≤ k) (fun _ _ h => h.elim id id))
      have A1 := hide a1
      have A2 := hide a2
      have A3 := hide a3
      clear h4 f4 hS4 a1 a2 a3 H3 F3
      go_wp2_with fail
      have FA := Fr.alloc W4 (.cells #[.string ⟨#[97]⟩] 9) (fun _ => False)
      have hin : In64 ((j : Int) + 1) := ⟨by omega, by omega⟩
      have HIN := hide hin
      refine (mg_write H4.out FA ((j : Int) + 1) hin _ 1 1 [bA] (strs_lit _ W4 [bA] _ rfl (.inr (Nat.le_refl _)) (by simp; decide)) rfl (fun x hx => by rw [A1.out] at hx; cases hx; show 0 + 1 < _; omega)).mono ?_
      rintro e W5 hw
      obtain ⟨y, hy, rfl, h5, f5⟩ : ∃ y, S4.act ((j : Int) + 1) = some y ∧ e = .returned (.int .i64 0) ∧ MG W5 bs mb (2 * j + 1) 0 (setT S4 ((j : Int) + 1) (some { y with ks := addK y.ks [bA], kn := y.kn + 1 })) ∧ Fr (W4.alloc (.cells #[.string ⟨#[97]⟩] 9)) W5 (fun k => bs ≤ k) := by
        rcases hw with ⟨h, _⟩ | h
        · rw [A1.out] at h; cases h
        · exact h
      rw [A1.out] at hy
      cases hy
      obtain ⟨X, hX⟩ : ∃ X : Tx, ({ snap := l, pb := pb, kb := kb, ks := addK (fun _ => none) [bA], kn := 0 + 1 } : Tx) = X := ⟨_, rfl⟩
      rw [show ({ ({ snap := l, pb := pb, kb := kb, ks := fun _ => none, kn := 0 } : Tx) with ks := addK (fun _ => none) [bA], kn := 0 + 1 } : Tx) = X from hX] at h5
      have x1 : X.snap = l ∧ X.ks bA = some () ∧ X.kn = 1 := by rw [← hX]; exact ⟨rfl, addK_mem (ks := fun _ => none) (L := [bA]) (k := bA) (List.Mem.head _), rfl⟩
      obtain ⟨T, hT⟩ : ∃ T, setT S4 ((j : Int) + 1) (some X) = T := ⟨_, rfl⟩
      have t1 : T.act ((j : Int) + 1) = some X := by rw [← hT]; simp [setT]
      have t2 : ∀ u, u ≠ (j : Int) + 1 → T.act u = none := by intro u hu; rw [← hT]; simp [setT, hu, A2.out u hu]
      have t3 : T.now = nw ∧ T.last = l ∧ T.begun = (j : Int) + 1 := by rw [← hT]; exact A3.out
      rw [hT] at h5
      have hcr : ¬ Crosses T X := no_cross h5.inv (by rw [x1.1, t3.2.1])
      have hnp : nextP T = max nw (l + 1) := by unfold nextP; rw [t3.1, t3.2.1]
      have hnw0 : 0 ≤ nw ∧ nw ≤ 1099511627776 := by have := h5.inv.n0; have := h5.inv.n1; rw [t3.1] at *; omega
      have hl0 : 0 ≤ l := by have := h5.inv.l0; rw [t3.2.1] at this; exact this
      have H5 := hide h5
      have F5 := hide (((F4.out.trans FA).trans f5).mono (Y := fun k => bs ≤ k) (fun _ _ h => by rcases h with (h | h) | h; exact h; exact h.elim; exact h))
      have X1 := hide x1
      have T1 := hide t1
      have T2 := hide t2
      have T3 := hide t3
      have CR := hide hcr
      have NP := hide hnp
      have HCM := hide (commit_any h5 ((j : Int) + 1) hin (by rw [t3.2.2]; omega) (fun x hx => by rw [t1] at hx; cases hx; rw [x1.2.2]; omega) (by omega))
      have hwl : wrap64 (l + 1) = l + 1 := by unfold wrap64; omega
      clear hw h5 f5 FA hX hT x1 t1 t2 t3 hcr hnp H4 F4 A1 A2 A3 hin
      by_cases hfu : 1099511627776 ≤ nextP T
      · have hc : chk T ((j : Int) + 1) = (0, 3) := by unfold chk; rw [T1.out]; simp only []; rw [if_neg (Empty.not_of bA_le X1.out.2.1), if_neg CR.out, if_pos hfu]
        have HC := hide hc
        have hor : nw = 1099511627776 ∨ (nw ≠ 1099511627776 ∧ l = 1099511627775) := by rw [NP.out] at hfu; omega
        clear hfu hc
        go_wp2_with fail
        refine HCM.out.mono ?_
        rintro e W6 ⟨rfl, f6, _⟩
        rw [HC.out]
        have F6 := hide ((F5.out.trans f6).mono (Y := fun k => bs ≤ k) (fun _ _ h => h.elim id id))
        clear f6 HCM
        rcases hor with rfl | ⟨h1, rfl⟩
        · go_wp2
          go_ret
          exact ⟨rfl, F6.out.mono (fun k hk h => by have := HBS.out; have h : bs ≤ k := h; omega)⟩
        · have hb : (nw == 1099511627776) = false := by simp [h1]
          go_wp2
          go_ret
          exact ⟨rfl, F6.out.mono (fun k hk h => by have := HBS.out; have h : bs ≤ k := h; omega)⟩
      · have hc : chk T ((j : Int) + 1) = (nextP T, 0) := chk_go T1.out (Empty.not_of bA_le X1.out.2.1) CR.out (by omega)
        have HC := hide hc
        have HFU := hide hfu
        clear hfu hc
        go_wp2_with fail
        refine HCM.out.mono ?_
        rintro e W6 ⟨rfl, f6, hp⟩
        rw [HC.out] at hp ⊢
        obtain ⟨s6, h6, g1, g2, g3⟩ : ∃ s6, MG W6 bs mb (2 * (j + 1)) 0 s6 ∧ s6.last = nextP T ∧ (∀ u, s6.act u = none) ∧ s6.begun = ((j + 1 : Nat) : Int) := by
          rcases hp with ⟨h, _⟩ | ⟨y, s1, s', hy, h7, hE, hor⟩
          · exact absurd rfl h
          · rw [T1.out] at hy
            cases hy
            obtain ⟨dv, hs1⟩ : ∃ dv, s1 = keepS (lastS T (nextP T)) ((j : Int) + 1) X (nextP T) dv := by
              rcases hor with ⟨_, h | ⟨h, _⟩⟩ | ⟨_, _, _, _, dv, h⟩
              · have := (Prod.mk.inj h).2; omega
              · exact absurd h (Empty.not_of bA_le X1.out.2.1)
              · exact ⟨dv, h⟩
            have hac : ∀ u, s'.act u = none := by
              intro u
              rw [hE.act, hs1]
              by_cases hu : u = (j : Int) + 1
              · simp [setT, hu]
              · simp [setT, hu, keepS, lastS, T2.out u hu]
            refine ⟨s', h7.more (by rw [X1.out.2.2]; omega) (by rw [hE.none' hac]; simp), by rw [hE.last, hs1]; rfl, hac, ?_⟩
            rw [hE.begun, hs1]
            show T.begun = _
            rw [T3.out.2.2]
            omega
        have H6 := hide h6
        have F6 := hide ((F5.out.trans f6).mono (Y := fun k => bs ≤ k) (fun _ _ h => h.elim id id))
        have G1 := hide g1
        have G2 := hide g2
        have G3 := hide g3
        have HFU2 : Hid (nextP T < 1099511627776) := hide (by have := HFU.out; omega)
        rw [NP.out] at HFU2 G1 ⊢
        clear h6 f6 hp g1 g2 g3 HCM
        by_cases hm : nw < l + 1
        · rw [show max nw (l + 1) = l + 1 by omega] at HFU2 G1 ⊢
          go_wp2
          go_roundw
          case rel => exact ⟨j + 1, l + 1, s6, by omega, by go_num, rfl, H6.out, G1.out, HFU2.out, G2.out, G3.out, F6.out⟩
          case measure => simp [intOf]; omega
        · have hm2 : l < nw := by omega
          rw [show max nw (l + 1) = nw by omega] at HFU2 G1 ⊢
          go_wp2
          go_roundw
          case rel => exact ⟨j + 1, nw, s6, by omega, by go_num, rfl, H6.out, G1.out, HFU2.out, G2.out, G3.out, F6.out⟩
          case measure => simp [intOf]; omega
    · have e1 : n = j := by omega
      subst e1
      go_wp2
      go_ret
      exact ⟨rfl, HF.out.mono (fun k hk h => by have := HBS.out; have h : bs ≤ k := h; omega)⟩
end Go.Proofs.Ytiooacaplajidaa
