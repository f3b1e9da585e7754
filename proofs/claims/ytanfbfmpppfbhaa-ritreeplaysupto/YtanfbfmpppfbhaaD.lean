/- Where a key stands among a node's. -/
import Derived.Test.YtanfbfmpppfbhaaC
import Derived.Test.YtanfbfmpppfbhaaLay
namespace Go.Proofs.Ytanfbfmpppfbhaa
open Go.RowKit
set_option maxRecDepth 100000
set_option linter.unusedVariables false
set_option linter.unusedSimpArgs false

theorem Fr.two {a b c : World} {X : Nat → Prop} (h : Fr a b X) (k : Fr b c X) : Fr a c X := (h.trans k).mono (fun _ _ h => h.elim id id)
theorem Fr.cell {w w' : World} {X : Nat → Prop} (hf : Fr w w' X) {g o : Nat} {v : Value} (hx : ¬ X g) (h : w.cell? ⟨g, o, none⟩ = some v) : w'.cell? ⟨g, o, none⟩ = some v := by
  rw [World.cell?_of_block (w := w) (hf.block g (World.block_lt_of_cell? w _ h) hx)]; exact h
set_option maxHeartbeats 1000000 in
theorem cmp_any (k s : ByteArray) (v : Int) (w : World) : Calls Try.prog 76 #[.agg #[.string k, .int .i64 v], .string s] w fun e w' => e = .returned (.int .i64 (kc k s)) ∧ Fr w w' (fun _ => False) := by
  obtain ⟨w1, hw1⟩ : ∃ w1, w1 = w.alloc (.cells #[.string k, .int .i64 v] 113) := ⟨_, rfl⟩
  have b1 : w1.heap[w.heap.size]? = some (.cells #[.string k, .int .i64 v] 113 (0, 0)) := by rw [hw1]; exact heap_alloc_new w _
  have x0 : w1.cell? ⟨w.heap.size, 0, none⟩ = some (.string k) := (cell_of_row _ _ _ _ _ _ b1).trans rfl
  have f1 : Fr w w1 (fun _ => False) := by rw [hw1]; exact Fr.alloc w _ _
  have HF := hide f1
  have HW := hide hw1
  have HC := hide (Try.strings_Compare k s w1)
  clear b1 f1 hw1
  go_enter Try.func76, Try.ntmps76
  go_wp2_with (rw [← HW.out]; clear HW)
  refine HC.out.mono ?_
  rintro e w2 ⟨rfl, rfl⟩
  clear x0
  go_wp2
  go_ret
  exact ⟨rfl, HF.out⟩
/-- Items that lie somewhere. -/
def ItsIn (w : World) (a : Option Addr) (L : List It) : Prop := ∀ (i : Nat) (x : It), L[i]? = some x → ∃ g, a = some ⟨g, 0, none⟩ ∧ w.cell? ⟨g, i * 2, none⟩ = some (.string x.key) ∧ w.cell? ⟨g, i * 2 + 1, none⟩ = some (.int .i64 x.val)
theorem ItsIn.fr {w w' : World} {a : Option Addr} {L : List It} (h : ItsIn w a L) (hf : Fr w w' (fun _ => False)) : ItsIn w' a L := fun i x hi => by
  obtain ⟨g, h1, h2, h3⟩ := h i x hi
  exact ⟨g, h1, hf.cell (fun h => h) h2, hf.cell (fun h => h) h3⟩
theorem its_row {w : World} {a : Option Addr} {n c : Nat} {L : List It} (h : w.ownsRow 0 113 2 (.slice a n c) n (encI L)) : ItsIn w a L := fun i x hi => by
  obtain ⟨h1, h2⟩ := encI_get L i x hi
  obtain ⟨g, e, c1⟩ := row_cell h h1
  obtain ⟨g', e', c2⟩ := row_cell h h2
  rw [e] at e'
  cases e'
  exact ⟨g, e, c1, c2⟩
/-- The place of a key, and whether it is there. -/
def FindP (L : List It) (s : ByteArray) (i : Nat) (b : Bool) : Prop := i ≤ L.length ∧ (∀ k x, k < i → L[k]? = some x → kc x.key s < 0) ∧ (∀ k x, i ≤ k → L[k]? = some x → 0 ≤ kc x.key s) ∧ (b = true ↔ ∃ x, L[i]? = some x ∧ x.key = s)
def FindQ (L : List It) (s : ByteArray) (w : World) (e : Ending) (w' : World) : Prop := ∃ (i : Nat) (b : Bool), e = .returned (.tuple #[.int .i64 (i : Int), .bool b]) ∧ FindP L s i b ∧ Fr w w' (fun _ => False)
set_option maxHeartbeats 4000000 in
theorem search_any {w : World} (a : Option Addr) (n c : Nat) (L : List It) (hL : ItsIn w a L) (hn : L.length = n) (hb : n ≤ 1048576) (hs : Srt L) (s : ByteArray) : Calls Try.prog 75 #[.slice a n c, .string s, .func (.func 76) #[] #[]] w (FindQ L s w) := by
  have HL := hide hL
  have HN := hide hn
  have HS := hide hs
  clear hL hn hs
  go_enter Try.func75, Try.ntmps75
  go_wp2_with fail
  go_loopw [9, 10] (fun vi vj wr => ∃ i j : Nat, i ≤ j ∧ j ≤ n ∧ vi = .int .i64 (i : Int) ∧ vj = .int .i64 (j : Int) ∧ (∀ k x, k < i → L[k]? = some x → kc x.key s < 0) ∧ (∀ k x, j ≤ k → L[k]? = some x → 0 ≤ kc x.key s) ∧ Fr w wr (fun _ => False)) (fun vi vj _ => (intOf vj).toNat - (intOf vi).toNat)
  case atStart => exact ⟨0, n, Nat.zero_le _, Nat.le_refl _, rfl, rfl, fun k x hk _ => absurd hk (Nat.not_lt_zero k), fun k x hk hx => (by rw [List.getElem?_eq_none (by have := HN.out; omega)] at hx; cases hx), Fr.refl _ _⟩
  case round =>
    rename World => W
    obtain ⟨i, j, hij, hjn, rfl, rfl, hlo, hhi, hf⟩ := hrel
    have HLO := hide hlo
    have HHI := hide hhi
    have HF := hide hf
    clear hlo hhi hf
    rcases Nat.lt_or_ge i j with hlt | hge
    · obtain ⟨m, hm⟩ : ∃ m, m = (i + j) / 2 := ⟨_, rfl⟩
      have hmi : i ≤ m := by omega
      have hmj : m < j := by omega
      have hmn : m < n := by omega
      obtain ⟨x, hx⟩ : ∃ x, L[m]? = some x := ⟨_, List.getElem?_eq_getElem (by rw [HN.out]; exact hmn)⟩
      obtain ⟨g, ha, c0, c1⟩ := (HL.out.fr HF.out) m x hx
      obtain ⟨xk, xv⟩ := x
      dsimp only at c0 c1
      rw [ha]
      have HX := hide hx
      have hdiv : ((i : Int) + (j : Int)) / 2 = (m : Int) := by omega
      have hlti : (i : Int) < (j : Int) := by omega
      clear hx ha hm
      have HC := hide (cmp_any xk s xv W)
      go_wp2_with fail
      refine HC.out.mono ?_
      rintro e W1 ⟨rfl, f1⟩
      have HF1 := hide (HF.out.two f1)
      clear HC f1 c0 c1 hdiv hlti
      by_cases hk : kc xk s < 0
      · have hkb : decide (kc xk s < 0) = true := by simpa using hk
        have HK := hide hk
        go_wp2
        go_roundw
        case rel => exact ⟨m + 1, j, by omega, by omega, by go_num, rfl, fun k x hkm hx => by
            obtain ⟨hl, hv⟩ := List.getElem?_eq_some_iff.1 hx
            rcases Nat.lt_or_ge k m with h | h
            · have h2 := HS.out
              unfold Srt at h2
              have h3 := List.pairwise_iff_getElem.1 h2 k m hl (by rw [HN.out]; exact hmn) h
              rw [hv, (List.getElem?_eq_some_iff.1 HX.out).2] at h3
              exact kl_trans h3 HK.out
            · obtain rfl : k = m := by omega
              rw [HX.out] at hx
              cases hx
              exact HK.out, HHI.out, HF1.out⟩
        case measure => simp [intOf]; omega
      · have hkb : decide (kc xk s < 0) = false := by simpa using hk
        have HK := hide hk
        go_wp2
        go_roundw
        case rel => exact ⟨i, m, by omega, by omega, rfl, rfl, HLO.out, fun k x hkm hx => by
            obtain ⟨hl, hv⟩ := List.getElem?_eq_some_iff.1 hx
            rcases Nat.lt_or_ge m k with h | h
            · have h2 := HS.out
              unfold Srt at h2
              have h3 := List.pairwise_iff_getElem.1 h2 m k (by rw [HN.out]; exact hmn) hl h
              rw [hv, (List.getElem?_eq_some_iff.1 HX.out).2] at h3
              have h4 := HK.out; rcases Int.lt_or_le (kc x.key s) 0 with h5 | h5
              · have := kl_trans h3 h5
                simp only at this; omega
              · exact h5
            · obtain rfl : k = m := by omega
              rw [HX.out] at hx
              cases hx
              have := HK.out
              simp only at this ⊢; omega, HF1.out⟩
        case measure => simp [intOf]; omega
    · obtain rfl : i = j := by omega
      have hnl : ¬ ((i : Int) < (i : Int)) := by omega
      have hnlb : decide ((i : Int) < (i : Int)) = false := by simp
      rcases Nat.lt_or_ge i n with hin | hin
      · have hini : (i : Int) < (n : Int) := by omega
        have hinb : decide ((i : Int) < (n : Int)) = true := by simp; omega
        obtain ⟨x, hx⟩ : ∃ x, L[i]? = some x := ⟨_, List.getElem?_eq_getElem (by rw [HN.out]; exact hin)⟩
        obtain ⟨g, ha, c0, c1⟩ := (HL.out.fr HF.out) i x hx
        obtain ⟨xk, xv⟩ := x
        dsimp only at c0 c1
        rw [ha]
        have HX := hide hx
        have HC := hide (cmp_any xk s xv W)
        clear hx ha hge
        go_wp2_with fail
        refine HC.out.mono ?_
        rintro e W1 ⟨rfl, f1⟩
        have HF1 := hide (HF.out.two f1)
        clear HC f1 c0 c1
        obtain ⟨b, hb'⟩ : ∃ b, b = decide (kc xk s = 0) := ⟨_, rfl⟩
        have hbe : (kc xk s == 0) = b := by rw [hb']; rfl
        have HB := hide hb'
        clear hb'
        go_wp2
        go_ret2
        refine ⟨i, b, rfl, ⟨by rw [HN.out]; omega, HLO.out, HHI.out, ?_⟩, HF1.out⟩
        rw [HB.out]
        constructor
        · intro h
          exact ⟨_, HX.out, kc_zero.1 (by simpa using h)⟩
        · rintro ⟨y, hy, e⟩
          rw [HX.out] at hy
          cases hy
          simpa using kc_zero.2 e
      · have hini : ¬ ((i : Int) < (n : Int)) := by omega
        have hinb : decide ((i : Int) < (n : Int)) = false := by simp; omega
        clear hge
        go_wp2
        go_ret2
        refine ⟨i, false, rfl, ⟨by rw [HN.out]; omega, HLO.out, HHI.out, ?_⟩, HF.out⟩
        constructor
        · intro h; cases h
        · rintro ⟨y, hy, _⟩
          rw [List.getElem?_eq_none (by rw [HN.out]; exact hin)] at hy
          cases hy
set_option maxHeartbeats 1000000 in
theorem find_any {cur : Int} {w : World} {d : Kd} {t : Int} {lv kv : Value} {L : List It} {ks : List Kd} (h : NodeP cur w d t lv kv L ks) (hs : Srt L) (hb : L.length ≤ 1048576) (s : ByteArray) : Calls Try.prog 53 #[.pointer (some ⟨d.g, 0, none⟩), .string s] w (FindQ L s w) := by
  obtain ⟨x0, x1, x2⟩ := h.cells
  obtain ⟨la, lc, ka, kc', rfl, rfl⟩ := h.shape
  have HS := hide (search_any la L.length lc L (its_row h.row) rfl hb hs s)
  generalize L.length = n at *
  clear h hs
  go_enter Try.func53, Try.ntmps53
  go_wp2_with fail
  refine HS.out.mono ?_
  rintro e w1 ⟨i, b, rfl, hp, f⟩
  have HP := hide hp
  have HF := hide f
  clear HS hp f x0 x1 x2
  go_wp2
  go_ret2
  exact ⟨i, b, rfl, HP.out, HF.out⟩
theorem natbeq (n : Nat) : ((n : Int) == 0) = decide (n = 0) := by
  by_cases h0 : n = 0
  · subst h0; rfl
  · rw [decide_eq_false h0]; simp; omega
set_option maxHeartbeats 1000000 in
theorem last_any {cur : Int} {w : World} {d : Kd} {t : Int} {lv kv : Value} {L : List It} {ks : List Kd} (h : NodeP cur w d t lv kv L ks) : Calls Try.prog 54 #[.pointer (some ⟨d.g, 0, none⟩)] w fun e w' => e = .returned (.bool (decide (ks.length = 0))) ∧ w' = w := by
  obtain ⟨x0, x1, x2⟩ := h.cells
  obtain ⟨la, lc, ka, kc', rfl, rfl⟩ := h.shape
  generalize ks.length = n at *
  clear h
  obtain ⟨b, hb'⟩ : ∃ b, b = decide (n = 0) := ⟨_, rfl⟩
  have hbe : ((n : Int) == 0) = b := by rw [hb']; exact natbeq n
  rw [← hb']
  clear hb'
  go_enter Try.func54, Try.ntmps54
  go_wp2
  go_ret
  exact ⟨rfl, rfl⟩
end Go.Proofs.Ytanfbfmpppfbhaa
