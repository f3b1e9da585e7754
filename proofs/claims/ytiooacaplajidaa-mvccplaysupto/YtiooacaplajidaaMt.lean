/- The walk of MvccAborts. -/
import Derived.Test.YtiooacaplajidaaMr
namespace Go.Proofs.Ytiooacaplajidaa
open Go.RowKit
set_option maxRecDepth 100000
set_option linter.unusedVariables false
set_option linter.unusedSimpArgs false

def wantP (K : List ByteArray) : Int := if K.length = 0 then 1 else 2
section
variable {w : World} {base mb N D : Nat} {T : St}
theorem commit_fresh (h : MG w base mb N D T) (t : Int) (ht : In64 t) (X : Tx) (hX : T.act t = some X) (hsn : X.snap = 1) (hl : T.last = 1) (hn : T.now = 1) (hb : T.begun = 2) (hst : ∀ k : ByteArray, k.size ≤ maxLen → T.st k = none) (K : List ByteArray) (hks : X.ks = addK (fun _ => none) K) (hK : ∀ x ∈ K, x.size ≤ maxLen) (hN : N + X.kn < 4611686018427387904) (hD : D ≤ 4398046511104) :
    Calls Try.prog 17 #[.pointer (some ⟨mb, 0, none⟩), .int .i64 t] w fun e w' => e = .returned (.tuple #[.int .i64 (wantP K), .int .i64 0]) ∧ (∃ s', MG w' base mb (N + X.kn) (D + 1) s' ∧ s'.last = wantP K ∧ s'.act = (setT T t none).act ∧ s'.begun = 2) ∧ Fr w w' (fun k => base ≤ k) := by
  have hcr : ¬ Crosses T X := by
    rintro ⟨k, hk, _, hlt⟩
    rw [hst k hk, hsn] at hlt
    simp at hlt
  have hnp : nextP T = 2 := by unfold nextP; rw [hn, hl]; decide
  refine (commit_any h t ht (by rw [hb]; decide) (fun x hx => by rw [hX] at hx; cases hx; exact hN) hD).mono ?_
  rintro e w' ⟨rfl, f, hp⟩
  by_cases hk0 : K.length = 0
  · have hKn : K = [] := List.eq_nil_of_length_eq_zero hk0
    have hem : Empty X := fun k _ => by rw [hks, hKn, addK_nil]
    have hc : chk T t = (1, 0) := by rw [← hsn]; exact chk_empty hX hem
    have hw : wantP K = 1 := by unfold wantP; rw [if_pos hk0]
    rw [hc] at hp ⊢
    rw [hw]
    refine ⟨rfl, ?_, f⟩
    rcases hp with ⟨h1, _⟩ | ⟨x, s1, s', hx, h7, hE, hor⟩
    · exact absurd rfl h1
    · rw [hX] at hx
      cases hx
      rcases hor with ⟨rfl, _⟩ | ⟨h1, _⟩
      · exact ⟨s', h7, by rw [hE.last, hl], hE.act, by rw [hE.begun, hb]⟩
      · exact absurd hem h1
  · obtain ⟨k0, hk0'⟩ : ∃ k0, k0 ∈ K := by
      cases K with
      | nil => exact absurd rfl hk0
      | cons a _ => exact ⟨a, List.Mem.head _⟩
    have hem : ¬ Empty X := Empty.not_of (hK k0 hk0') (by rw [hks]; exact addK_mem hk0')
    have hc : chk T t = (2, 0) := by rw [← hnp]; exact chk_go hX hem hcr (by rw [hnp]; decide)
    have hw : wantP K = 2 := by unfold wantP; rw [if_neg hk0]
    rw [hc] at hp ⊢
    rw [hw]
    refine ⟨rfl, ?_, f⟩
    rcases hp with ⟨h1, _⟩ | ⟨x, s1, s', hx, h7, hE, hor⟩
    · exact absurd rfl h1
    · rw [hX] at hx
      cases hx
      rcases hor with ⟨_, h1 | ⟨h1, _⟩⟩ | ⟨_, _, _, _, dv, rfl⟩
      · have := (Prod.mk.inj h1).2; omega
      · exact absurd h1 hem
      · exact ⟨s', h7, by rw [hE.last]; exact hnp, by rw [hE.act]; rfl, by rw [hE.begun]; exact hb⟩
end
set_option maxHeartbeats 8000000 in
theorem aborts_walk (HAC : Hid ActiveNone) {w : World} (a : Option Addr) (n c : Nat) (K : List ByteArray) (first : Bool) (hK : StrsIn (fun k => k < w.heap.size) w a K) (hn : K.length = n) (hnb : n ≤ 70368744177664) :
    Calls Try.prog 7 #[.slice a n c, .bool first] w fun x w' => x = .returned (.bool true) ∧ Fr w w' (fun _ => False) := by
  have HK := hide hK
  have HN := hide hn
  have HKO : Hid (∀ x ∈ K, x.size ≤ maxLen) := hide (fun x hx => by obtain ⟨i, hi⟩ := List.getElem?_of_mem hx; obtain ⟨_, _, _, _, _, h⟩ := hK i x hi; exact h)
  clear hK hn
  go_enter Try.func7, Try.ntmps7
  go_wp2_with fail
  refine (awake_any HAC w).mono ?_
  rintro e W1 ⟨rfl, f1⟩
  have F1 := hide f1
  clear f1
  go_wp2_with fail
  refine (mg_new W1 1 0).mono ?_
  rintro e W2 ⟨rfl, h2, f2⟩
  obtain ⟨mb, hmb⟩ : ∃ mb, W1.heap.size + 2 = mb := ⟨_, rfl⟩
  obtain ⟨bs, hbs⟩ : ∃ bs, W1.heap.size = bs := ⟨_, rfl⟩
  rw [hmb] at h2 ⊢
  rw [hbs] at h2
  rw [show lastP 1 = 1 by decide, show begunP 0 = 0 by decide] at h2
  have H2 := hide h2
  have HBS : Hid (w.heap.size ≤ bs) := hide (by have := F1.out.size; omega)
  have F2 := hide ((F1.out.two f2).mono (Y := fun k => bs ≤ k) (fun _ _ h => h.elim))
  clear h2 f2 hmb hbs F1
  go_wp2_with fail
  refine (mg_begin H2.out (by show (0 : Int) ≤ _; omega) (by omega)).mono ?_
  rintro e W3 ⟨rfl, ⟨kb, pb, h3⟩, f3⟩
  rw [show (s0 1 0 bs).begun + 1 = 1 from rfl] at h3 ⊢
  rw [show (s0 1 0 bs).last = 1 from rfl]
  have H3 := hide h3
  have F3 := hide ((F2.out.trans f3).mono (Y := fun k => bs ≤ k) (fun _ _ h => h.elim id id))
  clear h3 f3 H2 F2
  go_wp2_with fail
  refine (mg_begin H3.out (by show (1 : Int) ≤ _; omega) (by omega)).mono ?_
  rintro e W4 ⟨rfl, ⟨kb', pb', h4⟩, f4⟩
  rw [show (begS (s0 1 0 bs) 1 kb pb).begun + 1 = 2 from rfl] at h4 ⊢
  rw [show (begS (s0 1 0 bs) 1 kb pb).last = 1 from rfl]
  have F4 := hide ((F3.out.trans f4).mono (Y := fun k => bs ≤ k) (fun _ _ h => h.elim id id))
  obtain ⟨S, hS⟩ : ∃ S, begS (begS (s0 1 0 bs) 1 kb pb) 2 kb' pb' = S := ⟨_, rfl⟩
  have a1 : S.act 1 = some ⟨1, pb, kb, fun _ => none, 0⟩ := by rw [← hS]; rfl
  have a2 : S.act 2 = some ⟨1, pb', kb', fun _ => none, 0⟩ := by rw [← hS]; rfl
  have a3 : ∀ u, u ≠ 1 → u ≠ 2 → S.act u = none := by intro u h1 h2; rw [← hS]; simp [begS, s0, h1, h2]
  have e1 : S.st = fun _ => none := by rw [← hS]; rfl
  have e2 : S.now = 1 ∧ S.last = 1 ∧ S.begun = 2 := by rw [← hS]; exact ⟨rfl, rfl, rfl⟩
  rw [hS] at h4
  have H4 := hide h4
  have A1 := hide a1
  have A2 := hide a2
  have A3 := hide a3
  have E1 := hide e1
  have E2 := hide e2
  clear h4 f4 H3 F3 hS a1 a2 a3 e1 e2
  have HKW : Hid (∀ V, Fr w V (fun k => bs ≤ k) → ∀ V0 : World, StrsIn (fun k => k < bs ∨ V0.heap.size ≤ k) V a K) := hide (fun V hV V0 => (HK.out.fr hV (fun k hk h => by have := HBS.out; have h : bs ≤ k := h; omega)).imp (fun k hk => .inl (by have := HBS.out; omega)))
  go_wp2_with fail
  refine (mg_write H4.out (Fr.refl W4 _) 1 ⟨by decide, by decide⟩ a n c K (HKW.out W4 F4.out W4) HN.out (fun x hx => by rw [A1.out] at hx; cases hx; show 0 + n < _; omega)).mono ?_
  rintro e W5 hw
  obtain ⟨x, hx, rfl, h5, f5⟩ : ∃ x, S.act 1 = some x ∧ e = .returned (.int .i64 0) ∧ MG W5 bs mb 2 0 (setT S 1 (some { x with ks := addK x.ks K, kn := x.kn + n })) ∧ Fr W4 W5 (fun k => bs ≤ k) := by
    rcases hw with ⟨h, _⟩ | h
    · rw [A1.out] at h; cases h
    · exact h
  rw [A1.out] at hx
  cases hx
  have F5 := hide ((F4.out.trans f5).mono (Y := fun k => bs ≤ k) (fun _ _ h => h.elim id id))
  obtain ⟨X1, hX1⟩ : ∃ X : Tx, ({ snap := 1, pb := pb, kb := kb, ks := addK (fun _ => none) K, kn := 0 + n } : Tx) = X := ⟨_, rfl⟩
  rw [show ({ ({ snap := 1, pb := pb, kb := kb, ks := fun _ => none, kn := 0 } : Tx) with ks := addK (fun _ => none) K, kn := 0 + n } : Tx) = X1 from hX1] at h5
  have H5 := hide h5
  have q2 : (setT S 1 (some X1)).act 2 = some ⟨1, pb', kb', fun _ => none, 0⟩ := by simp [setT, A2.out]
  have Q2 := hide q2
  clear hw h5 f5 F4 H4 hX1 q2
  go_wp2_with fail
  refine (mg_write H5.out (Fr.refl W5 _) 2 ⟨by decide, by decide⟩ a n c K (HKW.out W5 F5.out W5) HN.out (fun x hx => by rw [Q2.out] at hx; cases hx; show 0 + n < _; omega)).mono ?_
  rintro e W6 hw
  obtain ⟨x, hx, rfl, h6, f6⟩ : ∃ x, (setT S 1 (some X1)).act 2 = some x ∧ e = .returned (.int .i64 0) ∧ MG W6 bs mb 2 0 (setT (setT S 1 (some X1)) 2 (some { x with ks := addK x.ks K, kn := x.kn + n })) ∧ Fr W5 W6 (fun k => bs ≤ k) := by
    rcases hw with ⟨h, _⟩ | h
    · rw [Q2.out] at h; cases h
    · exact h
  rw [Q2.out] at hx
  cases hx
  have F6 := hide ((F5.out.trans f6).mono (Y := fun k => bs ≤ k) (fun _ _ h => h.elim id id))
  obtain ⟨X2, hX2⟩ : ∃ X : Tx, ({ snap := 1, pb := pb', kb := kb', ks := addK (fun _ => none) K, kn := 0 + n } : Tx) = X := ⟨_, rfl⟩
  rw [show ({ ({ snap := 1, pb := pb', kb := kb', ks := fun _ => none, kn := 0 } : Tx) with ks := addK (fun _ => none) K, kn := 0 + n } : Tx) = X2 from hX2] at h6
  have x2 : X2.snap = 1 ∧ X2.ks = addK (fun _ => none) K ∧ X2.kn = n := by rw [← hX2]; exact ⟨rfl, rfl, by simp⟩
  obtain ⟨T, hT⟩ : ∃ T, setT (setT S 1 (some X1)) 2 (some X2) = T := ⟨_, rfl⟩
  have t1 : T.act 1 = some X1 := by rw [← hT]; simp [setT]
  have t2 : T.act 2 = some X2 := by rw [← hT]; simp [setT]
  have t3 : ∀ u, u ≠ 1 → u ≠ 2 → T.act u = none := by intro u h1 h2; rw [← hT]; simp [setT, h1, h2, A3.out u h1 h2]
  have t4 : T.st = fun _ => none := by rw [← hT]; exact E1.out
  have t5 : T.now = 1 ∧ T.last = 1 ∧ T.begun = 2 := by rw [← hT]; exact E2.out
  rw [hT] at h6
  have H6 := hide h6
  have T1 := hide t1
  have T2 := hide t2
  have T3 := hide t3
  have T4 := hide t4
  have T5 := hide t5
  have X2' := hide x2
  clear hw h6 f6 F5 H5 hX2 hT t1 t2 t3 t4 t5 x2 A1 A2 A3 E1 E2 Q2 HKW
  -- what is left, once both have ended
  obtain ⟨want, hwant⟩ : ∃ v, wantP K = v := ⟨_, rfl⟩
  have HWN : Hid ((n = 0 → want = 1) ∧ (n ≠ 0 → want = 2)) := hide (by rw [← hwant]; unfold wantP; rw [HN.out]; exact ⟨fun h => by rw [if_pos h], fun h => by rw [if_neg h]⟩)
  have HWT := hide hwant
  have tailC : ∀ (V : World) (s : St) (N D : Nat), MG V bs mb N D s → (∀ u, s.act u = none) → s.begun = 2 → N + 1 < 4611686018427387904 → D ≤ 4398046511104 → Calls Try.prog 17 #[.pointer (some ⟨mb, 0, none⟩), .int .i64 1] V fun e w' => e = .returned (.tuple #[.int .i64 0, .int .i64 70]) ∧ MG w' bs mb N D s ∧ Fr V w' (fun k => bs ≤ k) := by
    intro V s N D hV hno hbg hN hD
    refine (commit_any hV 1 ⟨by decide, by decide⟩ (by rw [hbg]; decide) (fun x hx => by rw [hno 1] at hx; cases hx) hD).mono ?_
    rintro e w' ⟨rfl, f, hp⟩
    rw [chk_none (hno 1)] at hp ⊢
    refine ⟨rfl, ?_, f⟩
    rcases hp with ⟨_, _, h⟩ | ⟨x, _, _, hx, _⟩
    · exact h
    · rw [hno 1] at hx; cases hx
  have tailA : ∀ (V : World) (s : St) (N D : Nat), MG V bs mb N D s → (∀ u, s.act u = none) → s.begun = 2 → Calls Try.prog 21 #[.pointer (some ⟨mb, 0, none⟩), .int .i64 1] V fun e w' => e = .returned (.int .i64 70) ∧ w' = V := by
    intro V s N D hV hno hbg
    refine (abort_any hV 1 ⟨by decide, by decide⟩ (by rw [hbg]; decide)).mono ?_
    rintro e w' (⟨_, h1, h2⟩ | ⟨h, _⟩)
    · exact ⟨h1, h2⟩
    · exact absurd (hno 1) h
  have tailW : ∀ (V : World) (s : St) (N D : Nat), MG V bs mb N D s → (∀ u, s.act u = none) → Calls Try.prog 16 #[.pointer (some ⟨mb, 0, none⟩), .int .i64 1, .slice (some ⟨V.heap.size, 0, none⟩) 1 1] (V.alloc (.cells #[.string ⟨#[97]⟩] 9)) fun e w' => e = .returned (.int .i64 70) ∧ w' = V.alloc (.cells #[.string ⟨#[97]⟩] 9) := by
    intro V s N D hV hno
    refine (mg_write hV (Fr.alloc V _ _) 1 ⟨by decide, by decide⟩ _ 1 1 [bA] (strs_lit _ V [bA] _ rfl (.inr (Nat.le_refl _)) (by simp; decide)) rfl (fun x hx => by rw [hno 1] at hx; cases hx)).mono ?_
    rintro e w' (⟨_, h1, _, h2⟩ | ⟨x, hx, _⟩)
    · exact ⟨h1, h2⟩
    · rw [hno 1] at hx; cases hx
  have HTC := hide tailC
  have HTA := hide tailA
  have HTW := hide tailW
  clear tailC tailA tailW hwant
  cases first
  · -- the other is committed first
    go_wp2_with fail
    refine (commit_fresh H6.out 2 ⟨by decide, by decide⟩ X2 T2.out X2'.out.1 T5.out.2.1 T5.out.1 T5.out.2.2 (fun k _ => by rw [T4.out]) K X2'.out.2.1 HKO.out (by rw [X2'.out.2.2]; omega) (by omega)).mono ?_
    rintro e W7 ⟨rfl, ⟨s7, h7, g1, g2, g3⟩, f7⟩
    rw [HWT.out] at g1 ⊢
    have F7 := hide ((F6.out.trans f7).mono (Y := fun k => bs ≤ k) (fun _ _ h => h.elim id id))
    have b1 : s7.act 1 = some X1 := by rw [g2]; simp [setT, T1.out]
    have b2 : ∀ u, u ≠ 1 → s7.act u = none := by
      intro u hu
      rw [g2]
      by_cases h2 : u = 2
      · simp [setT, h2]
      · simp [setT, h2, T3.out u hu h2]
    have HAB := hide (abort_any h7 1 ⟨by decide, by decide⟩ (by rw [g3]; decide))
    have B1 := hide b1
    have B2 := hide b2
    have G1' := hide g1
    have G3' := hide g3
    clear h7 g1 g2 g3 f7 b1 b2 H6 F6
    go_wp2_with fail
    refine HAB.out.mono ?_
    rintro e W8 hw
    obtain ⟨rfl, s8, h8, hE, f8⟩ : e = .returned (.int .i64 0) ∧ ∃ s8, MG W8 bs mb (2 + X2.kn) (0 + 1) s8 ∧ Ended s7 1 s8 ∧ Fr W7 W8 (fun k => bs ≤ k) := by
      rcases hw with ⟨h, _⟩ | ⟨_, h1, ⟨s8, h2, h3⟩, h4⟩
      · rw [B1.out] at h; cases h
      · exact ⟨h1, s8, h2, h3, h4⟩
    have H8 := hide h8
    have F8 := hide ((F7.out.trans f8).mono (Y := fun k => bs ≤ k) (fun _ _ h => h.elim id id))
    have G1 : Hid (s8.last = want) := hide (by rw [hE.last]; exact G1'.out)
    have G3 : Hid (s8.begun = 2) := hide (by rw [hE.begun]; exact G3'.out)
    have G2 : Hid (∀ u, s8.act u = none) := hide (fun u => by
      rw [hE.act]
      by_cases hu : u = 1
      · simp [setT, hu]
      · simp [setT, hu, B2.out u hu])
    rw [X2'.out.2.2] at H8
    clear hw h8 f8 hE HAB F7
    by_cases hz : n = 0
    · have hnb1 : decide ((n : Int) > 0) = false := by simp [hz]
      have hnb2 : ¬ ((0 : Int) < (n : Int)) := by omega
      obtain rfl : want = 1 := HWN.out.1 hz
      go_wp2_with fail
      refine (HTC.out W8 s8 _ _ H8.out G2.out G3.out (by omega) (by omega)).mono ?_
      rintro e W9 ⟨rfl, h9, f9⟩
      have H9 := hide h9
      have F9 := hide ((F8.out.trans f9).mono (Y := fun k => bs ≤ k) (fun _ _ h => h.elim id id))
      have HLA := hide (mg_last h9)
      rw [G1.out] at HLA
      clear h9 f9
      go_wp2_with fail
      refine HLA.out.mono ?_
      rintro e Wa ⟨rfl, hwa⟩
      rw [hwa]
      clear hwa Wa
      go_wp2_with fail
      refine (HTW.out W9 s8 _ _ H9.out G2.out).mono ?_
      rintro e Wb ⟨rfl, hwb⟩
      rw [hwb]
      clear hwb Wb
      have Hb := hide (H9.out.fr (Fr.alloc W9 (.cells #[.string ⟨#[97]⟩] 9) _))
      have Fb := hide ((F9.out.trans (Fr.alloc W9 (.cells #[.string ⟨#[97]⟩] 9) (fun _ => False))).mono (Y := fun k => bs ≤ k) (fun _ _ h => h.elim id False.elim))
      generalize W9.alloc (.cells #[.string ⟨#[97]⟩] 9) = Wc at *
      go_wp2_with fail
      refine (HTA.out Wc s8 _ _ Hb.out G2.out G3.out).mono ?_
      rintro e Wd ⟨rfl, hwd⟩
      rw [hwd]
      clear hwd Wd
      go_wp2_with fail
      refine (HAC.out Wc bs mb _ _ s8 Hb.out G2.out).mono ?_
      rintro e We ⟨⟨aa, cc, rfl⟩, fe⟩
      have Fe := hide ((Fb.out.trans fe).mono (Y := fun k => bs ≤ k) (fun _ _ h => h.elim id False.elim))
      clear fe
      go_wp2
      go_ret
      exact ⟨rfl, Fe.out.mono (fun k hk h => by have := HBS.out; have h : bs ≤ k := h; omega)⟩
    · have hnb1 : decide ((n : Int) > 0) = true := by simp; omega
      have hnb2 : (0 : Int) < (n : Int) := by omega
      obtain rfl : want = 2 := HWN.out.2 hz
      go_wp2_with fail
      refine (HTC.out W8 s8 _ _ H8.out G2.out G3.out (by omega) (by omega)).mono ?_
      rintro e W9 ⟨rfl, h9, f9⟩
      have H9 := hide h9
      have F9 := hide ((F8.out.trans f9).mono (Y := fun k => bs ≤ k) (fun _ _ h => h.elim id id))
      have HLA := hide (mg_last h9)
      rw [G1.out] at HLA
      clear h9 f9
      go_wp2_with fail
      refine HLA.out.mono ?_
      rintro e Wa ⟨rfl, hwa⟩
      rw [hwa]
      clear hwa Wa
      go_wp2_with fail
      refine (HTW.out W9 s8 _ _ H9.out G2.out).mono ?_
      rintro e Wb ⟨rfl, hwb⟩
      rw [hwb]
      clear hwb Wb
      have Hb := hide (H9.out.fr (Fr.alloc W9 (.cells #[.string ⟨#[97]⟩] 9) _))
      have Fb := hide ((F9.out.trans (Fr.alloc W9 (.cells #[.string ⟨#[97]⟩] 9) (fun _ => False))).mono (Y := fun k => bs ≤ k) (fun _ _ h => h.elim id False.elim))
      generalize W9.alloc (.cells #[.string ⟨#[97]⟩] 9) = Wc at *
      go_wp2_with fail
      refine (HTA.out Wc s8 _ _ Hb.out G2.out G3.out).mono ?_
      rintro e Wd ⟨rfl, hwd⟩
      rw [hwd]
      clear hwd Wd
      go_wp2_with fail
      refine (HAC.out Wc bs mb _ _ s8 Hb.out G2.out).mono ?_
      rintro e We ⟨⟨aa, cc, rfl⟩, fe⟩
      have Fe := hide ((Fb.out.trans fe).mono (Y := fun k => bs ≤ k) (fun _ _ h => h.elim id False.elim))
      clear fe
      go_wp2
      go_ret
      exact ⟨rfl, Fe.out.mono (fun k hk h => by have := HBS.out; have h : bs ≤ k := h; omega)⟩
  · -- it is lost first
    have HAB := hide (abort_any H6.out 1 ⟨by decide, by decide⟩ (by rw [T5.out.2.2]; decide))
    go_wp2_with fail
    refine HAB.out.mono ?_
    rintro e W7 hw
    obtain ⟨rfl, s7, h7, hE, f7⟩ : e = .returned (.int .i64 0) ∧ ∃ s7, MG W7 bs mb 2 0 s7 ∧ Ended T 1 s7 ∧ Fr W6 W7 (fun k => bs ≤ k) := by
      rcases hw with ⟨h, _⟩ | ⟨_, h1, ⟨s8, h2, h3⟩, h4⟩
      · rw [T1.out] at h; cases h
      · exact ⟨h1, s8, h2, h3, h4⟩
    have F7 := hide ((F6.out.trans f7).mono (Y := fun k => bs ≤ k) (fun _ _ h => h.elim id id))
    have b1 : s7.act 2 = some X2 := by rw [hE.act]; simp [setT, T2.out]
    have b2 : ∀ u, u ≠ 2 → s7.act u = none := by
      intro u hu
      rw [hE.act]
      by_cases h2 : u = 1
      · simp [setT, h2]
      · simp [setT, h2, T3.out u h2 hu]
    have b4 : ∀ k : ByteArray, k.size ≤ maxLen → s7.st k = none := by
      intro k hk
      rcases hE.st k hk with h | ⟨h, _⟩
      · rw [h, T4.out]
      · exact h
    have HCM := hide (commit_fresh h7 2 ⟨by decide, by decide⟩ X2 b1 X2'.out.1 (by rw [hE.last]; exact T5.out.2.1) (by rw [hE.now]; exact T5.out.1) (by rw [hE.begun]; exact T5.out.2.2) b4 K X2'.out.2.1 HKO.out (by rw [X2'.out.2.2]; omega) (by omega))
    have B2 := hide b2
    clear hw h7 f7 hE b1 b2 b4 HAB H6 F6
    go_wp2_with fail
    refine HCM.out.mono ?_
    rintro e W8 ⟨rfl, ⟨s8, h8, g1, g2, g3⟩, f8⟩
    rw [HWT.out] at g1 ⊢
    have H8 := hide h8
    have F8 := hide ((F7.out.trans f8).mono (Y := fun k => bs ≤ k) (fun _ _ h => h.elim id id))
    have G1 := hide g1
    have G3 := hide g3
    have G2 : Hid (∀ u, s8.act u = none) := hide (fun u => by
      rw [g2]
      by_cases hu : u = 2
      · simp [setT, hu]
      · simp [setT, hu, B2.out u hu])
    rw [X2'.out.2.2] at H8
    clear h8 f8 g1 g2 g3 HCM F7
    by_cases hz : n = 0
    · have hnb1 : decide ((n : Int) > 0) = false := by simp [hz]
      have hnb2 : ¬ ((0 : Int) < (n : Int)) := by omega
      obtain rfl : want = 1 := HWN.out.1 hz
      go_wp2_with fail
      refine (HTC.out W8 s8 _ _ H8.out G2.out G3.out (by omega) (by omega)).mono ?_
      rintro e W9 ⟨rfl, h9, f9⟩
      have H9 := hide h9
      have F9 := hide ((F8.out.trans f9).mono (Y := fun k => bs ≤ k) (fun _ _ h => h.elim id id))
      have HLA := hide (mg_last h9)
      rw [G1.out] at HLA
      clear h9 f9
      go_wp2_with fail
      refine HLA.out.mono ?_
      rintro e Wa ⟨rfl, hwa⟩
      rw [hwa]
      clear hwa Wa
      go_wp2_with fail
      refine (HTW.out W9 s8 _ _ H9.out G2.out).mono ?_
      rintro e Wb ⟨rfl, hwb⟩
      rw [hwb]
      clear hwb Wb
      have Hb := hide (H9.out.fr (Fr.alloc W9 (.cells #[.string ⟨#[97]⟩] 9) _))
      have Fb := hide ((F9.out.trans (Fr.alloc W9 (.cells #[.string ⟨#[97]⟩] 9) (fun _ => False))).mono (Y := fun k => bs ≤ k) (fun _ _ h => h.elim id False.elim))
      generalize W9.alloc (.cells #[.string ⟨#[97]⟩] 9) = Wc at *
      go_wp2_with fail
      refine (HTA.out Wc s8 _ _ Hb.out G2.out G3.out).mono ?_
      rintro e Wd ⟨rfl, hwd⟩
      rw [hwd]
      clear hwd Wd
      go_wp2_with fail
      refine (HAC.out Wc bs mb _ _ s8 Hb.out G2.out).mono ?_
      rintro e We ⟨⟨aa, cc, rfl⟩, fe⟩
      have Fe := hide ((Fb.out.trans fe).mono (Y := fun k => bs ≤ k) (fun _ _ h => h.elim id False.elim))
      clear fe
      go_wp2
      go_ret
      exact ⟨rfl, Fe.out.mono (fun k hk h => by have := HBS.out; have h : bs ≤ k := h; omega)⟩
    · have hnb1 : decide ((n : Int) > 0) = true := by simp; omega
      have hnb2 : (0 : Int) < (n : Int) := by omega
      obtain rfl : want = 2 := HWN.out.2 hz
      go_wp2_with fail
      refine (HTC.out W8 s8 _ _ H8.out G2.out G3.out (by omega) (by omega)).mono ?_
      rintro e W9 ⟨rfl, h9, f9⟩
      have H9 := hide h9
      have F9 := hide ((F8.out.trans f9).mono (Y := fun k => bs ≤ k) (fun _ _ h => h.elim id id))
      have HLA := hide (mg_last h9)
      rw [G1.out] at HLA
      clear h9 f9
      go_wp2_with fail
      refine HLA.out.mono ?_
      rintro e Wa ⟨rfl, hwa⟩
      rw [hwa]
      clear hwa Wa
      go_wp2_with fail
      refine (HTW.out W9 s8 _ _ H9.out G2.out).mono ?_
      rintro e Wb ⟨rfl, hwb⟩
      rw [hwb]
      clear hwb Wb
      have Hb := hide (H9.out.fr (Fr.alloc W9 (.cells #[.string ⟨#[97]⟩] 9) _))
      have Fb := hide ((F9.out.trans (Fr.alloc W9 (.cells #[.string ⟨#[97]⟩] 9) (fun _ => False))).mono (Y := fun k => bs ≤ k) (fun _ _ h => h.elim id False.elim))
      generalize W9.alloc (.cells #[.string ⟨#[97]⟩] 9) = Wc at *
      go_wp2_with fail
      refine (HTA.out Wc s8 _ _ Hb.out G2.out G3.out).mono ?_
      rintro e Wd ⟨rfl, hwd⟩
      rw [hwd]
      clear hwd Wd
      go_wp2_with fail
      refine (HAC.out Wc bs mb _ _ s8 Hb.out G2.out).mono ?_
      rintro e We ⟨⟨aa, cc, rfl⟩, fe⟩
      have Fe := hide ((Fb.out.trans fe).mono (Y := fun k => bs ≤ k) (fun _ _ h => h.elim id False.elim))
      clear fe
      go_wp2
      go_ret
      exact ⟨rfl, Fe.out.mono (fun k hk h => by have := HBS.out; have h : bs ≤ k := h; omega)⟩
end Go.Proofs.Ytiooacaplajidaa
