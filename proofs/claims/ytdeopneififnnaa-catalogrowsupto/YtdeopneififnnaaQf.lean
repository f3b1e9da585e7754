/- guess of a row that tells too many columns; Read of any table's row. -/
import Derived.Test.YtdeopneififnnaaQe
namespace Go.Proofs.Ytdeopneififnnaa
open Go.RowKit
set_option maxRecDepth 100000
set_option linter.unusedVariables false
set_option linter.unusedSimpArgs false

set_option maxHeartbeats 8000000 in
theorem guess_many {P : Nat → Prop} {w : World} (g off rn rc : Nat) (R : List Vl) (hR : ValsIn P w (some ⟨g, off, none⟩) R) (hn : R.length = rn) (cnt : Nat) (h4 : 4 ≤ rn) (h3 : (at_ R 3).int = (cnt : Int)) (h8 : 8 < cnt) :
    Calls Try.prog 46 #[.slice (some ⟨g, off, none⟩) rn rc] w fun e w' => e = .returned (.tuple #[zeroT.agg, .bool false]) ∧ Fr w w' (fun _ => False) := by
  obtain ⟨w1, hw1⟩ : ∃ w1, w1 = w.alloc (.cells #[.int .i64 0, .string ⟨#[]⟩, .slice none 0 0, .slice none 0 0, .bool false] 30) := ⟨_, rfl⟩
  have b1 : BoxT w1 w.heap.size zeroT := by rw [hw1]; exact heap_alloc_new w _
  have f1 : Fr w w1 (fun _ => False) := by rw [hw1]; exact Fr.alloc w _ _
  obtain ⟨g', off', e, _, _, x3, _⟩ := (hR.fr f1 (fun _ _ h => h)) 3 _ (at_eq (by omega))
  cases e
  rw [h3] at x3
  obtain ⟨w3, hw3⟩ : ∃ w3, w3 = ((((w1.setCell ⟨w.heap.size, 0, none⟩ (.int .i64 0)).setCell ⟨w.heap.size, 1, none⟩ (.string ⟨#[]⟩)).setCell ⟨w.heap.size, 2, none⟩ (.slice none 0 0)).setCell ⟨w.heap.size, 3, none⟩ (.slice none 0 0)).setCell ⟨w.heap.size, 4, none⟩ (.bool false) := ⟨_, rfl⟩
  have b3 : BoxT w3 w.heap.size zeroT := b1.fill w3 hw3
  have F3 := fr_fill (t' := zeroT) w3 hw3
  have HF := hide ((f1.trans F3).mono (Y := fun _ => False) (fun k hk h => by rcases h with h | h; exact h; omega))
  have HB := hide b3
  have hfz := b1.frozen
  obtain ⟨y0, y1, y2, y3, y4⟩ := b1.cells
  have z0 := hfz 0
  have z1 := hfz 1
  have z2 := hfz 2
  have z3 := hfz 3
  have z4 := hfz 4
  have HW := hide hw1
  have HU := hide hw3
  have hlt4 : ¬ ((rn : Int) < 4) := by omega
  have hlt4b : decide ((rn : Int) < 4) = false := by simp; omega
  have h3n : 3 < rn := by omega
  have hc0 : ¬ ((cnt : Int) < 0) := by omega
  have hc0b : decide ((cnt : Int) < 0) = false := by simp
  have hc8 : (cnt : Int) > 8 := by omega
  have hc8b : decide ((cnt : Int) > 8) = true := by simp; omega
  clear hR hn b1 f1 hw1 h3 b3 F3 hw3 hfz
  go_enter Try.func46, Try.ntmps46
  go_wp2_with (first | (rw [← HW.out]; clear HW) | (rw [← HU.out]; clear HU))
  exact bodyPost_ret (results_tb2 Try.results46 _ _ w.heap.size HB.out rfl) rfl ⟨rfl, HF.out⟩
set_option maxHeartbeats 8000000 in
theorem read_many {P : Nat → Prop} {w : World} (t : Tb) (a : Option Addr) (n c : Nat) (h : ValsIn P w a (rowP t)) (hn : (rowP t).length = n) (hC : 8 < t.C.length) : Calls Try.prog 24 #[.slice a n c] w (ReadP t w) := by
  obtain ⟨w1, hw1⟩ : ∃ w1, w1 = w.alloc (.cells #[.int .i64 0, .string ⟨#[]⟩, .slice none 0 0, .slice none 0 0, .bool false] 30) := ⟨_, rfl⟩
  have b1 : BoxT w1 w.heap.size zeroT := by rw [hw1]; exact heap_alloc_new w _
  have f1 : Fr w w1 (fun _ => False) := by rw [hw1]; exact Fr.alloc w _ _
  have hl := rowP_length t
  obtain ⟨g, off, rfl, _⟩ := h 0 _ (at_eq (by omega))
  have HG := hide (guess_many g off n c (rowP t) (h.fr f1 (fun _ _ h => h)) hn t.C.length (by omega) rfl hC)
  have HNO : Hid (¬ (1 ≤ t.id ∧ t.id ≤ 16 ∧ chkP t.name t.C t.K = 0)) := hide (fun hh => by
    have h3 := hh.2.2
    unfold chkP at h3
    split at h3
    · cases h3
    · rw [if_pos (.inr hC)] at h3
      cases h3)
  have HB1 := hide b1
  have HF1 := hide f1
  have HW := hide hw1
  clear h b1 f1 hw1 hn hl hC
  go_enter Try.func24, Try.ntmps24
  go_wp2_with (rw [← HW.out]; clear HW)
  refine HG.out.mono ?_
  rintro e w2 ⟨rfl, fV⟩
  obtain ⟨w3, hw3⟩ : ∃ w3, w3 = w2.alloc (.cells #[.int .i64 0, .string ⟨#[]⟩, .slice none 0 0, .slice none 0 0, .bool false] 30) := ⟨_, rfl⟩
  have f3 : Fr w2 w3 (fun _ => False) := by rw [hw3]; exact Fr.alloc w2 _ _
  obtain ⟨w5, hw5⟩ : ∃ w5, w5 = ((((w3.setCell ⟨w2.heap.size, 0, none⟩ (.int .i64 0)).setCell ⟨w2.heap.size, 1, none⟩ (.string ⟨#[]⟩)).setCell ⟨w2.heap.size, 2, none⟩ (.slice none 0 0)).setCell ⟨w2.heap.size, 3, none⟩ (.slice none 0 0)).setCell ⟨w2.heap.size, 4, none⟩ (.bool false) := ⟨_, rfl⟩
  have f5 := (f3.trans (fr_fill (t' := zeroT) w5 hw5)).mono (Y := fun _ => False) (fun k hk h => by rcases h with h | h; exact h; omega)
  have HBZ := HB1.out.fr (fV.two f5) (fun h => h)
  obtain ⟨w4, hw4⟩ : ∃ w4, w4 = ((((w5.setCell ⟨w.heap.size, 0, none⟩ (.int .i64 0)).setCell ⟨w.heap.size, 1, none⟩ (.string ⟨#[]⟩)).setCell ⟨w.heap.size, 2, none⟩ (.slice none 0 0)).setCell ⟨w.heap.size, 3, none⟩ (.slice none 0 0)).setCell ⟨w.heap.size, 4, none⟩ (.bool false) := ⟨_, rfl⟩
  have b4 : BoxT w4 w.heap.size zeroT := HBZ.fill w4 hw4
  have F4 := fr_fill (t' := zeroT) w4 hw4
  have HF := hide (((HF1.out.two (fV.two f5)).trans F4).mono (Y := fun _ => False) (fun k hk h => by rcases h with h | h; exact h; omega))
  have HB := hide b4
  have HBY := HB1.out.fr fV (fun h => h)
  have hfz := HBZ.frozen
  obtain ⟨y0, y1, y2, y3, y4⟩ := HBZ.cells
  unfold zeroT at y0 y1 y2 y3 y4
  have z0 := hfz 0
  have z1 := hfz 1
  have z2 := hfz 2
  have z3 := hfz 3
  have z4 := hfz 4
  have hb3 : BoxT w3 w2.heap.size zeroT := by rw [hw3]; exact heap_alloc_new w2 _
  obtain ⟨x0, x1, x2, x3, x4⟩ := hb3.cells
  unfold zeroT at x0 x1 x2 x3 x4
  have v0 := hb3.frozen 0
  have v1 := hb3.frozen 1
  have v2 := hb3.frozen 2
  have v3 := hb3.frozen 3
  have v4 := hb3.frozen 4
  have HW3 := hide hw3
  have HW5 := hide hw5
  have HU := hide hw4
  clear HG fV f3 f5 hw3 HBZ hw4 b4 F4 hfz HB1 HF1 hw5 hb3 HBY
  unfold Tb.agg zeroT
  go_wp2_with (first | (rw [← HW3.out]; clear HW3) | (rw [← HW5.out]; clear HW5) | (rw [← HU.out]; clear HU))
  exact bodyPost_ret (results_tb2 Try.results24 _ _ w.heap.size HB.out rfl) rfl ⟨HF.out, .inl ⟨HNO.out, rfl⟩⟩
theorem read_any {P : Nat → Prop} {w : World} (t : Tb) (a : Option Addr) (n c : Nat) (h : ValsIn P w a (rowP t)) (hn : (rowP t).length = n) (hc : n ≤ c) (hb : n ≤ 2097152 + 2097152) (hkb : t.K.length ≤ 1048576) (hid : In64 t.id) : Calls Try.prog 24 #[.slice a n c] w (ReadP t w) := by
  rcases Nat.lt_or_ge 8 t.C.length with h8 | h8
  · exact read_many t a n c h hn h8
  · exact read_row t a n c h hn hc (by rw [← hn, rowP_length]; omega) hkb h8 hid
end Go.Proofs.Ytdeopneififnnaa
