/- Read of a table's row. -/
import Derived.Test.YtdeopneififnnaaQd
namespace Go.Proofs.Ytdeopneififnnaa
open Go.RowKit
set_option maxRecDepth 100000
set_option linter.unusedVariables false
set_option linter.unusedSimpArgs false

theorem key_row (t : Tb) (s : Tb) (h : s.key = ((at_ (rowP t) 0).int, (at_ (rowP t) 1).text, colsR (rowP t) t.C.length, keysR (rowP t) t.C.length, decide ((at_ (rowP t) 2).int = 1))) : s.key = t.key := by
  rw [h, cols_row, keys_row]
  unfold Tb.key
  have e : decide ((at_ (rowP t) 2).int = 1) = t.ix := by
    show decide (bit t.ix = 1) = t.ix
    cases t.ix <;> rfl
  rw [e]
  rfl
set_option maxHeartbeats 8000000 in
theorem read_row {P : Nat → Prop} {w : World} (t : Tb) (a : Option Addr) (n c : Nat) (h : ValsIn P w a (rowP t)) (hn : (rowP t).length = n) (hc : n ≤ c) (hb : n ≤ 2097152) (hkb : t.K.length ≤ 1048576) (hC : t.C.length ≤ 8) (hid : In64 t.id) : Calls Try.prog 24 #[.slice a n c] w (ReadP t w) := by
  obtain ⟨w1, hw1⟩ : ∃ w1, w1 = w.alloc (.cells #[.int .i64 0, .string ⟨#[]⟩, .slice none 0 0, .slice none 0 0, .bool false] 30) := ⟨_, rfl⟩
  have b1 : BoxT w1 w.heap.size zeroT := by rw [hw1]; exact heap_alloc_new w _
  have f1 : Fr w w1 (fun _ => False) := by rw [hw1]; exact Fr.alloc w _ _
  have hsz1 : w1.heap.size = w.heap.size + 1 := by rw [hw1]; simp
  have hl := rowP_length t
  obtain ⟨g, off, rfl, _⟩ := h 0 _ (at_eq (by omega))
  have h1 := h.fr f1 (fun _ _ h => h)
  have HG := hide (guess_yes g off n c (rowP t) h1 hn hc hb t.C.length (by omega) (by omega) rfl hC (by omega) hid)
  have HV := hide h1
  have HB1 := hide b1
  have HF1 := hide f1
  have HN := hide hn
  have HS1 := hide hsz1
  have HW := hide hw1
  clear h h1 b1 f1 hsz1 hw1 hn hl hC
  go_enter Try.func24, Try.ntmps24
  go_wp2_with (rw [← HW.out]; clear HW)
  refine HG.out.mono ?_
  rintro e w2 ⟨s, rfl, hk, ht, fV⟩
  have hsk := key_row t s hk
  obtain ⟨w3, hw3⟩ : ∃ w3, w3 = w2.alloc (.cells #[.int .i64 s.id, .string s.name, .slice s.ca s.cn s.cc, .slice s.ka s.kn s.kc, .bool s.ix] 30) := ⟨_, rfl⟩
  have b3 : BoxT w3 w2.heap.size s := by rw [hw3]; exact heap_alloc_new w2 _
  have f3 : Fr w2 w3 (fun _ => False) := by rw [hw3]; exact Fr.alloc w2 _ _
  have F3 := fV.two f3
  have hf3 := HF1.out.two F3
  have HFW := hide hf3
  have HBZ := hide (HB1.out.fr F3 (fun h => h))
  have HBS := hide b3
  have HTS := hide (ht.fr f3 (fun _ _ h => h))
  have HVS := hide (HV.out.fr F3 (fun _ _ h => h))
  have HSK := hide hsk
  simp only [Tb.key, Prod.mk.injEq] at hsk
  obtain ⟨s1, s2, s3, s4, s5⟩ := hsk
  have HSI := hide s1
  have HCK : Hid (chkP s.name s.C s.K = chkP t.name t.C t.K) := hide (by rw [s2, s3, s4])
  have HLT : Hid (w.heap.size < w2.heap.size) := hide (by have := fV.size; have := HS1.out; omega)
  obtain ⟨x0, x1, x2, x3, x4⟩ := b3.cells
  have HW3 := hide hw3
  have HSW : Hid (w1.heap.size ≤ w3.heap.size) := hide F3.size
  clear HG hk ht fV f3 F3 hf3 b3 hw3 HF1 HB1 HV s1 s2 s3 s4 s5
  unfold Tb.agg
  by_cases i1 : s.id < 1
  · have i1b : decide (s.id < 1) = true := by simpa using i1
    have HI1 := hide i1
    clear i1
    have HNO : Hid (¬ (1 ≤ t.id ∧ t.id ≤ 16 ∧ chkP t.name t.C t.K = 0)) := hide (by rintro ⟨h, _⟩; have := HSI.out; have := HI1.out; omega)
    obtain ⟨w9, hw9⟩ : ∃ w9, w9 = ((((w3.setCell ⟨w.heap.size, 0, none⟩ (.int .i64 0)).setCell ⟨w.heap.size, 1, none⟩ (.string ⟨#[]⟩)).setCell ⟨w.heap.size, 2, none⟩ (.slice none 0 0)).setCell ⟨w.heap.size, 3, none⟩ (.slice none 0 0)).setCell ⟨w.heap.size, 4, none⟩ (.bool false) := ⟨_, rfl⟩
    have HB9 := hide (HBZ.out.fill (t' := zeroT) w9 hw9)
    have F9 := fr_fill (t' := zeroT) w9 hw9
    have HF9 := hide ((HFW.out.trans F9).mono (Y := fun _ => False) (fun k hk h => by rcases h with h | h; exact h; omega))
    obtain ⟨z0, z1, z2, z3, z4⟩ := HBZ.out.cells
    unfold zeroT at z0 z1 z2 z3 z4
    have q0 := HBZ.out.frozen 0
    have q1 := HBZ.out.frozen 1
    have q2 := HBZ.out.frozen 2
    have q3 := HBZ.out.frozen 3
    have q4 := HBZ.out.frozen 4
    have HU := hide hw9
    skip
    clear F9 hw9
    go_wp2_with (first | (rw [← HW3.out]; clear HW3) | (rw [← HU.out]; clear HU))
    exact bodyPost_ret (results_tb2 Try.results24 _ _ w.heap.size HB9.out rfl) rfl ⟨HF9.out, .inl ⟨HNO.out, rfl⟩⟩
  have i1b : decide (s.id < 1) = false := by simpa using i1
  have HI1 := hide i1
  by_cases i16 : s.id > 16
  · have i16b : decide (s.id > 16) = true := by simpa using i16
    have HI2 := hide i16
    have HNO : Hid (¬ (1 ≤ t.id ∧ t.id ≤ 16 ∧ chkP t.name t.C t.K = 0)) := hide (by rintro ⟨_, h, _⟩; have := HSI.out; have := HI2.out; omega)
    obtain ⟨w9, hw9⟩ : ∃ w9, w9 = ((((w3.setCell ⟨w.heap.size, 0, none⟩ (.int .i64 0)).setCell ⟨w.heap.size, 1, none⟩ (.string ⟨#[]⟩)).setCell ⟨w.heap.size, 2, none⟩ (.slice none 0 0)).setCell ⟨w.heap.size, 3, none⟩ (.slice none 0 0)).setCell ⟨w.heap.size, 4, none⟩ (.bool false) := ⟨_, rfl⟩
    have HB9 := hide (HBZ.out.fill (t' := zeroT) w9 hw9)
    have F9 := fr_fill (t' := zeroT) w9 hw9
    have HF9 := hide ((HFW.out.trans F9).mono (Y := fun _ => False) (fun k hk h => by rcases h with h | h; exact h; omega))
    obtain ⟨z0, z1, z2, z3, z4⟩ := HBZ.out.cells
    unfold zeroT at z0 z1 z2 z3 z4
    have q0 := HBZ.out.frozen 0
    have q1 := HBZ.out.frozen 1
    have q2 := HBZ.out.frozen 2
    have q3 := HBZ.out.frozen 3
    have q4 := HBZ.out.frozen 4
    have HU := hide hw9
    skip
    clear F9 hw9
    go_wp2_with (first | (rw [← HW3.out]; clear HW3) | (rw [← HU.out]; clear HU))
    exact bodyPost_ret (results_tb2 Try.results24 _ _ w.heap.size HB9.out rfl) rfl ⟨HF9.out, .inl ⟨HNO.out, rfl⟩⟩
  have i16b : decide (s.id > 16) = false := by simpa using i16
  have HI2 := hide i16
  have HCA := hide (check_any s HTS.out)
  unfold Tb.agg at HCA
  rw [HCK.out] at HCA
  go_wp2_with (first | (rw [← HW3.out]; clear HW3) | fail)
  refine HCA.out.mono ?_
  rintro e w4 ⟨rfl, f4⟩
  replace HBZ := hide (HBZ.out.fr f4 (fun h => h))
  replace HBS := hide (HBS.out.fr f4 (fun h => h))
  replace HTS := hide (HTS.out.fr f4 (fun _ _ h => h))
  replace HVS := hide (HVS.out.fr f4 (fun _ _ h => h))
  replace HFW := hide (HFW.out.two f4)
  replace HSW := hide (Nat.le_trans HSW.out f4.size)
  clear HCA f4 x0 x1 x2 x3 x4
  obtain ⟨x0, x1, x2, x3, x4⟩ := HBS.out.cells
  by_cases hk : chkP t.name t.C t.K = 0
  case neg =>
    have hkb : (chkP t.name t.C t.K != 0) = true := by simp [hk]
    have HKN := hide hk
    have HNO : Hid (¬ (1 ≤ t.id ∧ t.id ≤ 16 ∧ chkP t.name t.C t.K = 0)) := hide (by rintro ⟨_, _, h⟩; exact HKN.out h)
    obtain ⟨w9, hw9⟩ : ∃ w9, w9 = ((((w4.setCell ⟨w.heap.size, 0, none⟩ (.int .i64 0)).setCell ⟨w.heap.size, 1, none⟩ (.string ⟨#[]⟩)).setCell ⟨w.heap.size, 2, none⟩ (.slice none 0 0)).setCell ⟨w.heap.size, 3, none⟩ (.slice none 0 0)).setCell ⟨w.heap.size, 4, none⟩ (.bool false) := ⟨_, rfl⟩
    have HB9 := hide (HBZ.out.fill (t' := zeroT) w9 hw9)
    have F9 := fr_fill (t' := zeroT) w9 hw9
    have HF9 := hide ((HFW.out.trans F9).mono (Y := fun _ => False) (fun k hk h => by rcases h with h | h; exact h; omega))
    obtain ⟨z0, z1, z2, z3, z4⟩ := HBZ.out.cells
    unfold zeroT at z0 z1 z2 z3 z4
    have q0 := HBZ.out.frozen 0
    have q1 := HBZ.out.frozen 1
    have q2 := HBZ.out.frozen 2
    have q3 := HBZ.out.frozen 3
    have q4 := HBZ.out.frozen 4
    have HU := hide hw9
    skip
    clear F9 hw9
    clear HKN
    go_wp2_with (rw [← HU.out]; clear HU)
    exact bodyPost_ret (results_tb2 Try.results24 _ _ w.heap.size HB9.out rfl) rfl ⟨HF9.out, .inl ⟨HNO.out, rfl⟩⟩
  have hkb : (chkP t.name t.C t.K != 0) = false := by simp [hk]
  have HKY := hide hk
  rw [hk]
  clear hk hkb
  have HRO := hide (row_any s HTS.out)
  unfold Tb.agg at HRO
  rw [rowP_key HSK.out] at HRO
  go_wp2_with fail
  refine HRO.out.mono ?_
  rintro e w5 ⟨v, rfl, hg⟩
  obtain ⟨av, cv, rfl, hvv, _, _⟩ := hg.vals
  rw [HN.out]
  have f5 := hg.2.1
  have HEQ := hide (equal_same av (some ⟨g, off, none⟩) n cv c (rowP t) hvv (HVS.out.fr f5 (fun _ _ h => h)) HN.out (by omega))
  replace HBZ := hide (HBZ.out.fr f5 (fun h => h))
  replace HBS := hide (HBS.out.fr f5 (fun h => h))
  replace HTS := hide (HTS.out.fr f5 (fun _ _ h => h))
  replace HFW := hide (HFW.out.two f5)
  replace HSW := hide (Nat.le_trans HSW.out f5.size)
  clear HRO f5 hg hvv HVS x0 x1 x2 x3 x4
  go_wp2_with fail
  refine HEQ.out.mono ?_
  rintro e w6 ⟨rfl, f6⟩
  replace HBZ := hide (HBZ.out.fr f6 (fun h => h))
  replace HBS := hide (HBS.out.fr f6 (fun h => h))
  replace HTS := hide (HTS.out.fr f6 (fun _ _ h => h))
  replace HFW := hide (HFW.out.two f6)
  replace HSW := hide (Nat.le_trans HSW.out f6.size)
  clear HEQ f6
  obtain ⟨x0, x1, x2, x3, x4⟩ := HBS.out.cells
  obtain ⟨w9, hw9⟩ : ∃ w9, w9 = ((((w6.setCell ⟨w.heap.size, 0, none⟩ (.int .i64 s.id)).setCell ⟨w.heap.size, 1, none⟩ (.string s.name)).setCell ⟨w.heap.size, 2, none⟩ (.slice s.ca s.cn s.cc)).setCell ⟨w.heap.size, 3, none⟩ (.slice s.ka s.kn s.kc)).setCell ⟨w.heap.size, 4, none⟩ (.bool s.ix) := ⟨_, rfl⟩
  have HB9 := hide (HBZ.out.fill (t' := s) w9 hw9)
  have F9 := fr_fill (t' := s) w9 hw9
  have HF9 := hide ((HFW.out.trans F9).mono (Y := fun _ => False) (fun k hk h => by rcases h with h | h; exact h; omega))
  have HT9 := hide ((HTS.out.fr F9 (fun k hk h => by have := HS1.out; omega)).mono (Q := fun g => w.heap.size ≤ g) (fun k hk => by have := HS1.out; omega))
  obtain ⟨z0, z1, z2, z3, z4⟩ := HBZ.out.cells
  unfold zeroT at z0 z1 z2 z3 z4
  have q0 := HBZ.out.frozen 0
  have q1 := HBZ.out.frozen 1
  have q2 := HBZ.out.frozen 2
  have q3 := HBZ.out.frozen 3
  have q4 := HBZ.out.frozen 4
  have HU := hide hw9
  clear F9 hw9
  go_wp2_with (rw [← HU.out]; clear HU)
  exact bodyPost_ret (results_tb2 Try.results24 _ _ w.heap.size HB9.out rfl) rfl ⟨HF9.out, .inr ⟨⟨by have := HSI.out; have := HI1.out; omega, by have := HSI.out; have := HI2.out; omega, HKY.out⟩, s, HSK.out, rfl, HT9.out⟩⟩
end Go.Proofs.Ytdeopneififnnaa
