/- CatalogFull: the walk. -/
import Derived.Test.YtdeopneififnnaaRa
import Derived.Test.YtdeopneififnnaaMa
namespace Go.Proofs.Ytdeopneififnnaa
open Go.RowKit
set_option maxRecDepth 100000
set_option linter.unusedVariables false
set_option linter.unusedSimpArgs false

theorem ba_list {s t : ByteArray} (h : s.data.toList = t.data.toList) : s = t := by
  cases s; cases t
  simp only [ByteArray.mk.injEq] at *
  exact Array.toList_inj.1 h
def rdB (v : Value) : Option (DataW Unit × List MemPlace) := match v with
  | .bool a => some (.lit (.bool a), [])
  | _ => none
/-- What was seen. -/
def EB : Elem ByteArray Bool where
  t := 65
  k := 9
  e := 4
  ht := Try.underlying65
  K := Maps.string_keyed Try.underlying9
  kv := fun x => .string x
  kl := fun x => .string x.data.toList
  ok := fun x => x.size ≤ maxLen
  hkey := fun x hx => WideMaps.keyOf_string_mk Try.underlying9 hx
  kinv := fun v l h => by obtain ⟨x, h1, h2, h3⟩ := WideMaps.string_of_keyOf Try.underlying9 h; exact ⟨x, h1, h2, h3⟩
  kinj := fun x y h => by injection h with h; exact ba_list h
  vinj := fun x y h => by injection h
  kkey := fun x => trivial
  R := rdB
  val := fun x => .bool x
  dat := fun x => .lit (.bool x)
  z := false
  hz := fun w => by simp [zeroValue, typeInfo]; kernel_rfl
  hR := fun b => rfl
  inv := fun v y h => by
    unfold rdB at h
    split at h
    · cases h; exact ⟨_, rfl, rfl⟩
    · cases h
  inj := fun a b h => by simpa using h
def seenF (L : List Tb) (y : ByteArray) : Option Bool := if hasT L y then some true else none
/-- Between two rounds. -/
def FI (w : World) (gc gm n : Nat) (W : World) : Prop := ∃ (X : Nat → Prop) (v : Value) (L : List Tb), Cat X W gc v L ∧ L.length = n ∧ n ≤ 16 ∧ MapF EB W gm n (seenF L) ∧ ¬ X gm ∧ (∀ k, X k → w.heap.size ≤ k) ∧ w.heap.size ≤ gm ∧ Fr w W (fun _ => False)
theorem chkF_no {s : ByteArray} (h : nameP s = false) : chkP s [⟨⟨#[65]⟩, 2⟩] [] = 173 := by unfold chkP; rw [if_pos (.inl h)]
theorem chkF_yes {s : ByteArray} (h : nameP s = true) : chkP s [⟨⟨#[65]⟩, 2⟩] [] = 0 := by
  unfold chkP
  rw [if_neg (by rw [h]; decide), if_neg (by decide), if_neg (by decide), if_neg (by decide), if_neg (by decide)]
theorem full_tab {w : World} (id : Int) (hid : In64 id) (nm : ByteArray) (gA : Nat) (hA : w.heap[gA]? = some (.cells #[.string ⟨#[65]⟩, .int .i64 2] 37 (0, 0))) :
    TabIn (fun _ => True) w ⟨id, nm, some ⟨gA, 0, none⟩, 1, 1, [⟨⟨#[65]⟩, 2⟩], none, 0, 0, [], false⟩ := by
  refine ⟨fun i x hi => ?_, rfl, by dsimp only; omega, .inr ⟨gA, 0, rfl, trivial, (Array.getElem?_eq_some_iff.1 hA).1⟩, fun i x hi => by simp at hi, rfl, by dsimp only; omega, .inl ⟨rfl, rfl, rfl⟩, hid⟩
  match i, hi with
  | 0, hi => cases hi; exact ⟨gA, 0, rfl, trivial, (cell_of_row _ _ _ _ _ _ hA).trans rfl, (cell_of_row _ _ _ _ _ _ hA).trans rfl⟩
theorem seen_more (L : List Tb) (t : Tb) (s : ByteArray) (ht : t.name = s) (y : ByteArray) : seenF (L ++ [t]) y = if y = s then some true else seenF L y := by
  unfold seenF hasT
  rw [List.any_append]
  by_cases h : y = s
  · subst h; simp [ht]
  · have h2 : ¬ t.name = y := fun e => h (by rw [← e, ht])
    simp [h, h2]
set_option maxHeartbeats 16000000 in
theorem full_walk {P : Nat → Prop} {w : World} (na : Option Addr) (nn nc : Nat) (N : List ByteArray) (hN : StrsIn P w na N) (hn : N.length = nn) (hb : nn ≤ 1000000000000000) : Calls Try.prog 7 #[.slice na nn nc] w fun e w' => e = .returned (.bool true) ∧ Fr w w' (fun _ => False) := by
  have HNM := hide hN
  have HNN := hide hn
  have HAW := hide (awake_any w)
  clear hN hn
  go_enter Try.func7, Try.ntmps7
  go_wp2_with fail
  refine HAW.out.mono ?_
  rintro e w1 ⟨rfl, f1⟩
  have HF1 := hide f1
  have HNew := hide (new_any w1)
  obtain ⟨gc, hgc⟩ : ∃ gc, gc = w1.heap.size := ⟨_, rfl⟩
  rw [← hgc] at HNew
  have HGC := hide hgc
  clear HAW f1 hgc
  go_wp2_with fail
  refine HNew.out.mono ?_
  rintro e w2 ⟨rfl, f2, hl2, hcat⟩
  have hm := map_new EB w2
  have fm := Fr.alloc w2 (.map #[] 0) (fun _ => False)
  obtain ⟨w3, hw3⟩ : ∃ w3, w3 = w2.alloc (.map #[] 0) := ⟨_, rfl⟩
  rw [← hw3] at hm fm
  obtain ⟨gm, hgm⟩ : ∃ gm, gm = w2.heap.size := ⟨_, rfl⟩
  rw [← hgm] at hm
  have HI : Hid (FI w gc gm 0 w3) := hide ⟨fun k => k = gc, _, [], hcat.fr fm (fun _ _ h => h), rfl, by omega, hm.congr (fun x _ => rfl), by omega, fun k hk => by have := HF1.out.size; have := HGC.out; omega, by have := HF1.out.size; have := HGC.out; omega, (HF1.out.two f2).two fm⟩
  have HW := hide hw3
  have HGM := hide hgm
  clear HNew f2 hl2 hcat hm fm hw3 hgm
  have mk1 : ∀ V : World, (Instr.makeMap 65 none).run Try.prog V = .ok (.map (some V.heap.size)) (V.alloc (.map #[] 0)) := fun V => rfl
  go_wp2_with (first | (rw [← HW.out, ← HGM.out]; clear HW) | fail)
  clear mk1
  go_loopw [5, 16] (fun nv ix wr => ∃ j n : Nat, j ≤ nn ∧ nv = .int .i64 (n : Int) ∧ ix = .int .i64 (j : Int) ∧ FI w gc gm n wr) (fun _ ix _ => nn - (intOf ix).toNat)
  case atStart => exact ⟨0, 0, Nat.zero_le _, rfl, rfl, HI.out⟩
  case round =>
    rename World => W
    obtain ⟨j, n, hj, rfl, rfl, X, v, L, hc, hL, h16, hmp, hxm, hxb, hgb, hf⟩ := hrel
    have HC := hide hc
    have HL := hide hL
    have HMP := hide hmp
    have HXM := hide hxm
    have HXB := hide hxb
    have HGB := hide hgb
    have HF := hide hf
    clear hc hL hmp hxm hxb hgb hf HI
    rcases Nat.lt_or_ge j nn with hlt | hge
    · obtain ⟨s, hs⟩ : ∃ s, N[j]? = some s := ⟨_, List.getElem?_eq_getElem (by rw [HNN.out]; exact hlt)⟩
      obtain ⟨g, off, ha, _, e0⟩ := (HNM.out.fr HF.out (fun _ _ h => h)) j s hs
      rw [ha]
      obtain ⟨W1, hW1⟩ : ∃ W1, W1 = W.alloc (.cells #[.string ⟨#[65]⟩, .int .i64 2] 37) := ⟨_, rfl⟩
      have f1 : Fr W W1 (fun _ => False) := by rw [hW1]; exact Fr.alloc _ _ _
      have b1 : W1.heap[W.heap.size]? = some (.cells #[.string ⟨#[65]⟩, .int .i64 2] 37 (0, 0)) := by rw [hW1]; exact heap_alloc_new _ _
      obtain ⟨t, htt⟩ : ∃ t : Tb, t = ⟨(n : Int) + 1, s, some ⟨W.heap.size, 0, none⟩, 1, 1, [⟨⟨#[65]⟩, 2⟩], none, 0, 0, [], false⟩ := ⟨_, rfl⟩
      have ht := full_tab (w := W1) ((n : Int) + 1) (by unfold In64; omega) s W.heap.size b1
      have HC1 := hide (HC.out.fr f1 (fun _ _ h => h))
      have HMP1 := hide (HMP.out.fr f1 (fun h => h))
      have HF1' := hide (HF.out.two f1)
      have hcr := create_any HC1.out (by rw [HL.out]; omega) t (by rw [htt, HL.out]) (by rw [htt]) (by rw [htt]; exact ht)
      rw [htt] at hcr
      dsimp only at hcr
      rw [← htt] at hcr
      have HCR := hide hcr
      have HTT := hide htt
      have HW1 := hide hW1
      clear hs ha f1 b1 htt ht hcr hW1 HC HMP HF
      go_wp2_with (rw [← HW1.out]; clear HW1)
      refine HCR.out.mono ?_
      rintro e W2 hpost
      have hnm : t.name = s := by rw [HTT.out]
      have hcC : t.C = [⟨⟨#[65]⟩, 2⟩] := by rw [HTT.out]
      have hcK : t.K = [] := by rw [HTT.out]
      have htid : t.id = (n : Int) + 1 := by rw [HTT.out]
      have hce : createE L t = if nameP s = false then 173 else if hasT L s = true then 162 else if 16 ≤ n then 3 else 0 := by
        unfold createE
        rw [hnm, hcC, hcK, HL.out]
        cases hq : nameP s
        · rw [chkF_no hq]; rfl
        · rw [chkF_yes hq]; rfl
      by_cases hq : nameP s = false
      · rw [if_pos hq] at hce
        rcases hpost with ⟨_, rfl, f2⟩ | ⟨h0, _⟩
        case inr => rw [hce] at h0; cases h0
        rw [hce]
        have HI2 : Hid (FI w gc gm n W2) := hide ⟨X, v, L, HC1.out.fr f2 (fun _ _ h => h), HL.out, h16, HMP1.out.fr f2 (fun h => h), HXM.out, HXB.out, HGB.out, HF1'.out.two f2⟩
        clear hce f2 hnm hcC hcK htid HCR HC1 HMP1 HF1' e0
        by_cases h0 : s.size = 0
        · have h0l : s.toList = [] := (empty_iff s).2 h0
          have h0e : s.toList.isEmpty = true := by rw [h0l]; rfl
          clear hq h0
          go_wp2
          go_roundw
          case rel => exact ⟨j + 1, n, by omega, rfl, by go_num, HI2.out⟩
          case measure => simp [intOf]; omega
        · have h0l : ¬ (s.toList = []) := fun h => h0 ((empty_iff s).1 h)
          have h0e : s.toList.isEmpty = false := by simpa using h0l
          have h24 : (s.size : Int) > 24 := by unfold nameP at hq; simp at hq; omega
          have h24b : decide ((s.size : Int) > 24) = true := by simpa using h24
          clear hq h0
          go_wp2
          go_roundw
          case rel => exact ⟨j + 1, n, by omega, rfl, by go_num, HI2.out⟩
          case measure => simp [intOf]; omega
      · rw [if_neg hq] at hce
        have hq2 : nameP s = true := by simpa using hq
        have hsz : 0 < s.size ∧ s.size ≤ 24 := by unfold nameP at hq2; simp at hq2; exact hq2
        have hok : EB.ok s := by show s.size ≤ maxLen; unfold maxLen; omega
        have h0l : ¬ (s.toList = []) := fun h => by have := (empty_iff s).1 h; omega
        have h0e : s.toList.isEmpty = false := by simpa using h0l
        have h24 : ¬ ((s.size : Int) > 24) := by omega
        have h24b : decide ((s.size : Int) > 24) = false := by simp; omega
        by_cases hh : hasT L s = true
        · rw [if_pos hh] at hce
          rcases hpost with ⟨_, rfl, f2⟩ | ⟨h0, _⟩
          case inr => rw [hce] at h0; cases h0
          rw [hce]
          have HMP2 := hide (HMP1.out.fr f2 (fun h => h))
          have HI2 : Hid (FI w gc gm n W2) := hide ⟨X, v, L, HC1.out.fr f2 (fun _ _ h => h), HL.out, h16, HMP2.out, HXM.out, HXB.out, HGB.out, HF1'.out.two f2⟩
          have hlk := HMP2.out.look hok
          rw [show seenF L s = some true by unfold seenF; rw [if_pos hh]] at hlk
          replace hlk : (Instr.lookup 65 (.map (some gm)) (.string s) false).run Try.prog W2 = .ok (.bool true) W2 := hlk
          clear hce f2 hnm hcC hcK htid HCR HC1 HMP1 HF1' e0 hq hq2 hsz hok hh
          go_wp2
          go_roundw
          case rel => exact ⟨j + 1, n, by omega, rfl, by go_num, HI2.out⟩
          case measure => simp [intOf]; omega
        · rw [if_neg hh] at hce
          have hsn : seenF L s = none := by unfold seenF; rw [if_neg hh]
          by_cases h6 : 16 ≤ n
          · rw [if_pos h6] at hce
            rcases hpost with ⟨_, rfl, f2⟩ | ⟨h0, _⟩
            case inr => rw [hce] at h0; cases h0
            rw [hce]
            have HMP2 := hide (HMP1.out.fr f2 (fun h => h))
            have HI2 : Hid (FI w gc gm n W2) := hide ⟨X, v, L, HC1.out.fr f2 (fun _ _ h => h), HL.out, h16, HMP2.out, HXM.out, HXB.out, HGB.out, HF1'.out.two f2⟩
            have hlk := HMP2.out.look hok
            rw [hsn] at hlk
            replace hlk : (Instr.lookup 65 (.map (some gm)) (.string s) false).run Try.prog W2 = .ok (.bool false) W2 := hlk
            obtain rfl : n = 16 := by omega
            clear hce f2 hnm hcC hcK htid HCR HC1 HMP1 HF1' e0 hq hq2 hsz hok hh hsn h6
            go_wp2
            go_roundw
            case rel => exact ⟨j + 1, 16, by omega, rfl, by go_num, HI2.out⟩
            case measure => simp [intOf]; omega
          · rw [if_neg h6] at hce
            rcases hpost with ⟨h0, _⟩ | ⟨_, rfl, f2, v2, a2, c2, a3, c3, hc2⟩
            · exact absurd hce h0
            rw [htid]
            have hgx : ¬ X gm := HXM.out
            have hgl := HMP1.out.lt
            have HMP2 := hide (HMP1.out.fr f2 hgx)
            have hlk := HMP2.out.look hok
            rw [hsn] at hlk
            replace hlk : (Instr.lookup 65 (.map (some gm)) (.string s) false).run Try.prog W2 = .ok (.bool false) W2 := hlk
            obtain ⟨W3, hup, hm3, f3⟩ := HMP2.out.put (by unfold maxLen; omega) hok true
            replace hup : (Instr.mapUpdate 65 (.map (some gm)) (.string s) (.bool true)).run Try.prog W2 = .ok () W3 := hup
            obtain ⟨n1, hn1⟩ : ∃ n1, n1 = n + 1 := ⟨_, rfl⟩
            have HI3 : Hid (FI w gc gm n1 W3) := hide ⟨fun k => X k ∨ W1.heap.size ≤ k, v2, _, hc2.fr f3 (fun k hk h => by
                have h : k = gm := h
                subst h
                rcases hk with hk | hk
                · exact hgx hk
                · omega), by rw [List.length_append, HL.out, hn1]; rfl, by omega, by
                rw [hn1]
                exact hm3.congr (fun y _ => seen_more L { t with ca := a2, cc := c2, ka := a3, kc := c3 } s hnm y), fun h => by
                rcases h with h | h
                · exact hgx h
                · omega, fun k hk => by
                rcases hk with hk | hk
                · exact HXB.out k hk
                · have := HF1'.out.size; omega, HGB.out, (HF1'.out.trans (f2.trans f3)).mono (fun k hk h => by
                rcases h with h | h | h
                · exact h
                · have := HXB.out k h; omega
                · have := HGB.out; have h : k = gm := h; omega)⟩
            have HN1 := hide hn1
            have hn6 : ¬ ((n : Int) = 16) := by omega
            have hn6b : ((n : Int) == 16) = false := by simp; omega
            clear hce f2 hnm hcC hcK htid HCR HC1 HMP1 HF1' e0 hq hq2 hsz hok hh hsn h6 hc2 hm3 f3 hgx hgl hn1 HMP2
            go_wp2
            go_roundw
            case rel => exact ⟨j + 1, n1, by omega, by rw [HN1.out]; go_num, by go_num, HI3.out⟩
            case measure => simp [intOf]; omega
    · have hcj : ¬ ((j : Int) < (nn : Int)) := by omega
      have hcjb : decide ((j : Int) < (nn : Int)) = false := by simp; omega
      have HTA := hide (tables_any HC.out (by rw [HL.out]; omega))
      rw [HL.out] at HTA
      go_wp2_with fail
      refine HTA.out.mono ?_
      rintro e W2 ⟨a, c, M, rfl, hcp⟩
      have HF2 := hide (HF.out.two hcp.fr)
      clear HTA hcp
      go_wp2
      go_ret
      exact ⟨rfl, HF2.out⟩
end Go.Proofs.Ytdeopneififnnaa
