/- Read of any row. -/
import Derived.Test.YtdeopneififnnaaYb
namespace Go.Proofs.Ytdeopneififnnaa
open Go.RowKit
set_option maxRecDepth 100000
set_option linter.unusedVariables false
set_option linter.unusedSimpArgs false

/-- A table whose row it is, and that may be told. -/
def GoodR (R : List Vl) (s : Tb) : Prop := rowP s = R ∧ 1 ≤ s.id ∧ s.id ≤ 16 ∧ chkP s.name s.C s.K = 0
/-- What Read tells of a row. -/
def ReadR (R : List Vl) (w : World) (e : Ending) (w' : World) : Prop := Fr w w' (fun _ => False) ∧
  ((e = .returned (.tuple #[zeroT.agg, .int .i64 31]) ∧ ∀ s, ¬ GoodR R s) ∨ ∃ s : Tb, e = .returned (.tuple #[s.agg, .int .i64 0]) ∧ GoodR R s ∧ TabIn (fun g => w.heap.size ≤ g) w' s)
theorem good_cols {R : List Vl} {s : Tb} (h : GoodR R s) : 1 ≤ s.C.length ∧ s.C.length ≤ 8 := by
  have h3 := h.2.2.2
  unfold chkP at h3
  split at h3
  · cases h3
  · split at h3
    · cases h3
    · rename_i hh; omega
theorem good_count {R : List Vl} {s : Tb} (h : GoodR R s) : (at_ R 3).int = (s.C.length : Int) := by rw [← h.1]; rfl
theorem good_len {R : List Vl} {s : Tb} (h : GoodR R s) : R.length = 4 + 2 * s.C.length + s.K.length := by rw [← h.1]; exact rowP_length s
/-- A row tells its table. -/
theorem rowP_inj {s t : Tb} (h : rowP s = rowP t) : s.key = t.key := by
  have hc : (s.C.length : Int) = (t.C.length : Int) := by
    have := congrArg (fun L => (at_ L 3).int) h
    exact this
  have hc : s.C.length = t.C.length := by omega
  have h2 := key_row t s (by rw [← h]; rw [← hc]; unfold Tb.key; rw [cols_row, keys_row]; congr 1; congr 1; congr 1; congr 1; show s.ix = decide (bit s.ix = 1); cases s.ix <;> rfl)
  exact h2
set_option maxHeartbeats 8000000 in
theorem guess_no {P : Nat → Prop} {w : World} (a : Option Addr) (rn rc : Nat) (R : List Vl) (hR : ValsIn P w a R) (hn : R.length = rn) (hb : rn ≤ 2097152) (hno : rn < 4 ∨ (4 ≤ rn ∧ ((at_ R 3).int < 0 ∨ 8 < (at_ R 3).int ∨ (rn : Int) < 4 + 2 * (at_ R 3).int))) :
    Calls Try.prog 46 #[.slice a rn rc] w fun e w' => e = .returned (.tuple #[zeroT.agg, .bool false]) ∧ Fr w w' (fun _ => False) := by
  obtain ⟨w1, hw1⟩ : ∃ w1, w1 = w.alloc (.cells #[.int .i64 0, .string ⟨#[]⟩, .slice none 0 0, .slice none 0 0, .bool false] 30) := ⟨_, rfl⟩
  have b1 : BoxT w1 w.heap.size zeroT := by rw [hw1]; exact heap_alloc_new w _
  have f1 : Fr w w1 (fun _ => False) := by rw [hw1]; exact Fr.alloc w _ _
  obtain ⟨w3, hw3⟩ : ∃ w3, w3 = ((((w1.setCell ⟨w.heap.size, 0, none⟩ (.int .i64 0)).setCell ⟨w.heap.size, 1, none⟩ (.string ⟨#[]⟩)).setCell ⟨w.heap.size, 2, none⟩ (.slice none 0 0)).setCell ⟨w.heap.size, 3, none⟩ (.slice none 0 0)).setCell ⟨w.heap.size, 4, none⟩ (.bool false) := ⟨_, rfl⟩
  have b3 : BoxT w3 w.heap.size zeroT := b1.fill w3 hw3
  have F3 := fr_fill (t' := zeroT) w3 hw3
  have HF := hide ((f1.trans F3).mono (Y := fun _ => False) (fun k hk h => by rcases h with h | h; exact h; omega))
  have HB := hide b3
  have hfz := b1.frozen
  obtain ⟨y0, y1, y2, y3, y4⟩ := b1.cells
  have z0 := hfz 0
  have z1 := hfz 1
  have z2 := hfz 2
  have z3 := hfz 3
  have z4 := hfz 4
  have HW := hide hw1
  have HU := hide hw3
  rcases hno with hlt | ⟨h4, hno⟩
  · have hlt4 : (rn : Int) < 4 := by omega
    have hlt4b : decide ((rn : Int) < 4) = true := by simp; omega
    clear hR hn b1 f1 hw1 b3 F3 hw3 hfz hlt
    go_enter Try.func46, Try.ntmps46
    go_wp2_with (first | (rw [← HW.out]; clear HW) | (rw [← HU.out]; clear HU))
    exact bodyPost_ret (results_tb2 Try.results46 _ _ w.heap.size HB.out rfl) rfl ⟨rfl, HF.out⟩
  · obtain ⟨g, off, e, _, _, x3, _⟩ := (hR.fr f1 (fun _ _ h => h)) 3 _ (at_eq (by omega))
    subst e
    obtain ⟨cnt, hcnt⟩ : ∃ cnt, (at_ R 3).int = cnt := ⟨_, rfl⟩
    rw [hcnt] at x3 hno
    have hlt4 : ¬ ((rn : Int) < 4) := by omega
    have hlt4b : decide ((rn : Int) < 4) = false := by simp; omega
    have h3n : 3 < rn := by omega
    clear hR hn b1 f1 hw1 b3 F3 hw3 hfz hcnt
    by_cases hc0 : cnt < 0
    · have hc0b : decide (cnt < 0) = true := by simpa using hc0
      clear hno
      go_enter Try.func46, Try.ntmps46
      go_wp2_with (first | (rw [← HW.out]; clear HW) | (rw [← HU.out]; clear HU))
      exact bodyPost_ret (results_tb2 Try.results46 _ _ w.heap.size HB.out rfl) rfl ⟨rfl, HF.out⟩
    · have hc0b : decide (cnt < 0) = false := by simpa using hc0
      by_cases hc8 : cnt > 8
      · have hc8b : decide (cnt > 8) = true := by simpa using hc8
        clear hno
        go_enter Try.func46, Try.ntmps46
        go_wp2_with (first | (rw [← HW.out]; clear HW) | (rw [← HU.out]; clear HU))
        exact bodyPost_ret (results_tb2 Try.results46 _ _ w.heap.size HB.out rfl) rfl ⟨rfl, HF.out⟩
      · have hc8b : decide (cnt > 8) = false := by simpa using hc8
        have hl4 : (rn : Int) < 4 + 2 * cnt := by omega
        have hl4b : decide ((rn : Int) < 4 + 2 * cnt) = true := by simpa using hl4
        obtain ⟨k, rfl⟩ : ∃ k : Nat, cnt = (k : Int) := ⟨cnt.toNat, by omega⟩
        clear hno
        go_enter Try.func46, Try.ntmps46
        go_wp2_with (first | (rw [← HW.out]; clear HW) | (rw [← HU.out]; clear HU))
        exact bodyPost_ret (results_tb2 Try.results46 _ _ w.heap.size HB.out rfl) rfl ⟨rfl, HF.out⟩
set_option maxHeartbeats 8000000 in
theorem read_no {w : World} (a : Option Addr) (n c : Nat) (R : List Vl) (hbad : ∀ s, ¬ GoodR R s) (hg : ∀ W : World, Fr w W (fun _ => False) → Calls Try.prog 46 #[.slice a n c] W fun e w' => e = .returned (.tuple #[zeroT.agg, .bool false]) ∧ Fr W w' (fun _ => False)) : Calls Try.prog 24 #[.slice a n c] w (ReadR R w) := by
  obtain ⟨w1, hw1⟩ : ∃ w1, w1 = w.alloc (.cells #[.int .i64 0, .string ⟨#[]⟩, .slice none 0 0, .slice none 0 0, .bool false] 30) := ⟨_, rfl⟩
  have b1 : BoxT w1 w.heap.size zeroT := by rw [hw1]; exact heap_alloc_new w _
  have f1 : Fr w w1 (fun _ => False) := by rw [hw1]; exact Fr.alloc w _ _
  have HG := hide (hg w1 f1)
  have HNO : Hid (∀ s, ¬ GoodR R s) := hide hbad
  have HB1 := hide b1
  have HF1 := hide f1
  have HW := hide hw1
  clear hg hbad b1 f1 hw1
  go_enter Try.func24, Try.ntmps24
  go_wp2_with (rw [← HW.out]; clear HW)
  refine HG.out.mono ?_
  rintro e w2 ⟨rfl, fV⟩
  obtain ⟨w3, hw3⟩ : ∃ w3, w3 = w2.alloc (.cells #[.int .i64 0, .string ⟨#[]⟩, .slice none 0 0, .slice none 0 0, .bool false] 30) := ⟨_, rfl⟩
  have f3 : Fr w2 w3 (fun _ => False) := by rw [hw3]; exact Fr.alloc w2 _ _
  obtain ⟨w5, hw5⟩ : ∃ w5, w5 = ((((w3.setCell ⟨w2.heap.size, 0, none⟩ (.int .i64 0)).setCell ⟨w2.heap.size, 1, none⟩ (.string ⟨#[]⟩)).setCell ⟨w2.heap.size, 2, none⟩ (.slice none 0 0)).setCell ⟨w2.heap.size, 3, none⟩ (.slice none 0 0)).setCell ⟨w2.heap.size, 4, none⟩ (.bool false) := ⟨_, rfl⟩
  have f5 := (f3.trans (fr_fill (t' := zeroT) w5 hw5)).mono (Y := fun _ => False) (fun k hk h => by rcases h with h | h; exact h; omega)
  have HBZ := HB1.out.fr (fV.two f5) (fun h => h)
  obtain ⟨w4, hw4⟩ : ∃ w4, w4 = ((((w5.setCell ⟨w.heap.size, 0, none⟩ (.int .i64 0)).setCell ⟨w.heap.size, 1, none⟩ (.string ⟨#[]⟩)).setCell ⟨w.heap.size, 2, none⟩ (.slice none 0 0)).setCell ⟨w.heap.size, 3, none⟩ (.slice none 0 0)).setCell ⟨w.heap.size, 4, none⟩ (.bool false) := ⟨_, rfl⟩
  have b4 : BoxT w4 w.heap.size zeroT := HBZ.fill w4 hw4
  have F4 := fr_fill (t' := zeroT) w4 hw4
  have HF := hide (((HF1.out.two (fV.two f5)).trans F4).mono (Y := fun _ => False) (fun k hk h => by rcases h with h | h; exact h; omega))
  have HB := hide b4
  have HBY := HB1.out.fr fV (fun h => h)
  have hfz := HBZ.frozen
  obtain ⟨y0, y1, y2, y3, y4⟩ := HBZ.cells
  unfold zeroT at y0 y1 y2 y3 y4
  have z0 := hfz 0
  have z1 := hfz 1
  have z2 := hfz 2
  have z3 := hfz 3
  have z4 := hfz 4
  have hb3 : BoxT w3 w2.heap.size zeroT := by rw [hw3]; exact heap_alloc_new w2 _
  obtain ⟨x0, x1, x2, x3, x4⟩ := hb3.cells
  unfold zeroT at x0 x1 x2 x3 x4
  have v0 := hb3.frozen 0
  have v1 := hb3.frozen 1
  have v2 := hb3.frozen 2
  have v3 := hb3.frozen 3
  have v4 := hb3.frozen 4
  have HW3 := hide hw3
  have HW5 := hide hw5
  have HU := hide hw4
  clear HG fV f3 f5 hw3 HBZ hw4 b4 F4 hfz HB1 HF1 hw5 hb3 HBY
  unfold Tb.agg zeroT
  go_wp2_with (first | (rw [← HW3.out]; clear HW3) | (rw [← HW5.out]; clear HW5) | (rw [← HU.out]; clear HU))
  exact bodyPost_ret (results_tb2 Try.results24 _ _ w.heap.size HB.out rfl) rfl ⟨HF.out, .inl ⟨rfl, HNO.out⟩⟩
set_option maxHeartbeats 8000000 in
theorem read_yes {P : Nat → Prop} {w : World} (g off n c : Nat) (R : List Vl) (hR : ValsIn P w (some ⟨g, off, none⟩) R) (hn : R.length = n) (hc : n ≤ c) (hb : n ≤ 2097152) (cnt : Nat) (hkb : n ≤ 1048580 + 2 * cnt) (h4 : 4 ≤ n) (h3 : (at_ R 3).int = (cnt : Int)) (h8 : cnt ≤ 8) (hlen : 4 + 2 * cnt ≤ n) (h64 : In64 (at_ R 0).int) : Calls Try.prog 24 #[.slice (some ⟨g, off, none⟩) n c] w (ReadR R w) := by
  obtain ⟨w1, hw1⟩ : ∃ w1, w1 = w.alloc (.cells #[.int .i64 0, .string ⟨#[]⟩, .slice none 0 0, .slice none 0 0, .bool false] 30) := ⟨_, rfl⟩
  have b1 : BoxT w1 w.heap.size zeroT := by rw [hw1]; exact heap_alloc_new w _
  have f1 : Fr w w1 (fun _ => False) := by rw [hw1]; exact Fr.alloc w _ _
  have hsz1 : w1.heap.size = w.heap.size + 1 := by rw [hw1]; simp
  have h1 := hR.fr f1 (fun _ _ h => h)
  have HG := hide (guess_yes g off n c R h1 hn hc hb cnt hkb h4 h3 h8 hlen h64)
  have HKEY : Hid (∀ s s' : Tb, s.key = ((at_ R 0).int, (at_ R 1).text, colsR R cnt, keysR R cnt, decide ((at_ R 2).int = 1)) → GoodR R s' → s.key = s'.key) := hide (fun s s' hs hg => by
    have e1 := good_count hg
    rw [h3] at e1
    obtain rfl : cnt = s'.C.length := by omega
    rw [← hg.1] at hs
    exact key_row s' s hs)
  have HV := hide h1
  have HB1 := hide b1
  have HF1 := hide f1
  have HN := hide hn
  have HS1 := hide hsz1
  have HW := hide hw1
  clear hR h1 b1 f1 hsz1 hw1 hn h3 h64
  go_enter Try.func24, Try.ntmps24
  go_wp2_with (rw [← HW.out]; clear HW)
  refine HG.out.mono ?_
  rintro e w2 ⟨s, rfl, hk, ht, fV⟩
  have HGK : Hid (∀ s', GoodR R s' → s.key = s'.key) := hide (fun s' hg => HKEY.out s s' hk hg)
  obtain ⟨w3, hw3⟩ : ∃ w3, w3 = w2.alloc (.cells #[.int .i64 s.id, .string s.name, .slice s.ca s.cn s.cc, .slice s.ka s.kn s.kc, .bool s.ix] 30) := ⟨_, rfl⟩
  have b3 : BoxT w3 w2.heap.size s := by rw [hw3]; exact heap_alloc_new w2 _
  have f3 : Fr w2 w3 (fun _ => False) := by rw [hw3]; exact Fr.alloc w2 _ _
  have F3 := fV.two f3
  have hf3 := HF1.out.two F3
  have HFW := hide hf3
  have HBZ := hide (HB1.out.fr F3 (fun h => h))
  have HBS := hide b3
  have HTS := hide (ht.fr f3 (fun _ _ h => h))
  have HVS := hide (HV.out.fr F3 (fun _ _ h => h))
  have hsR : s.C.length ≤ 8 := by
    simp only [Tb.key, Prod.mk.injEq] at hk
    rw [hk.2.2.1]
    unfold colsR
    rw [List.length_map, List.length_range]
    exact h8
  have hsK : s.K.length ≤ n := by
    simp only [Tb.key, Prod.mk.injEq] at hk
    rw [hk.2.2.2.1]
    unfold keysR
    rw [List.length_map, List.length_drop, HN.out]
    omega
  have HSL : Hid ((rowP s).length ≤ 8388608) := hide (by rw [rowP_length]; omega)
  have HLT : Hid (w.heap.size < w2.heap.size) := hide (by have := fV.size; have := HS1.out; omega)
  obtain ⟨x0, x1, x2, x3, x4⟩ := b3.cells
  have HW3 := hide hw3
  have HSW : Hid (w1.heap.size ≤ w3.heap.size) := hide F3.size
  clear HG HKEY hk ht fV f3 F3 hf3 b3 hw3 HF1 HB1 HV hsR hsK
  unfold Tb.agg
  by_cases i1 : s.id < 1
  · have i1b : decide (s.id < 1) = true := by simpa using i1
    have HI1 := hide i1
    clear i1
    have HNO : Hid (∀ s', ¬ GoodR R s') := hide (fun s' hg => by have e := HGK.out s' hg; simp only [Tb.key, Prod.mk.injEq] at e; have := hg.2.1; have := HI1.out; have := e.1; omega)
    obtain ⟨w9, hw9⟩ : ∃ w9, w9 = ((((w3.setCell ⟨w.heap.size, 0, none⟩ (.int .i64 0)).setCell ⟨w.heap.size, 1, none⟩ (.string ⟨#[]⟩)).setCell ⟨w.heap.size, 2, none⟩ (.slice none 0 0)).setCell ⟨w.heap.size, 3, none⟩ (.slice none 0 0)).setCell ⟨w.heap.size, 4, none⟩ (.bool false) := ⟨_, rfl⟩
    have HB9 := hide (HBZ.out.fill (t' := zeroT) w9 hw9)
    have F9 := fr_fill (t' := zeroT) w9 hw9
    have HF9 := hide ((HFW.out.trans F9).mono (Y := fun _ => False) (fun k hk h => by rcases h with h | h; exact h; omega))
    obtain ⟨z0, z1, z2, z3, z4⟩ := HBZ.out.cells
    unfold zeroT at z0 z1 z2 z3 z4
    have q0 := HBZ.out.frozen 0
    have q1 := HBZ.out.frozen 1
    have q2 := HBZ.out.frozen 2
    have q3 := HBZ.out.frozen 3
    have q4 := HBZ.out.frozen 4
    have HU := hide hw9
    clear F9 hw9
    go_wp2_with (first | (rw [← HW3.out]; clear HW3) | (rw [← HU.out]; clear HU))
    exact bodyPost_ret (results_tb2 Try.results24 _ _ w.heap.size HB9.out rfl) rfl ⟨HF9.out, .inl ⟨rfl, HNO.out⟩⟩
  have i1b : decide (s.id < 1) = false := by simpa using i1
  have HI1 := hide i1
  by_cases i16 : s.id > 16
  · have i16b : decide (s.id > 16) = true := by simpa using i16
    have HI2 := hide i16
    clear i16 i1
    have HNO : Hid (∀ s', ¬ GoodR R s') := hide (fun s' hg => by have e := HGK.out s' hg; simp only [Tb.key, Prod.mk.injEq] at e; have := hg.2.2.1; have := HI2.out; have := e.1; omega)
    have i1 := HI1.out
    obtain ⟨w9, hw9⟩ : ∃ w9, w9 = ((((w3.setCell ⟨w.heap.size, 0, none⟩ (.int .i64 0)).setCell ⟨w.heap.size, 1, none⟩ (.string ⟨#[]⟩)).setCell ⟨w.heap.size, 2, none⟩ (.slice none 0 0)).setCell ⟨w.heap.size, 3, none⟩ (.slice none 0 0)).setCell ⟨w.heap.size, 4, none⟩ (.bool false) := ⟨_, rfl⟩
    have HB9 := hide (HBZ.out.fill (t' := zeroT) w9 hw9)
    have F9 := fr_fill (t' := zeroT) w9 hw9
    have HF9 := hide ((HFW.out.trans F9).mono (Y := fun _ => False) (fun k hk h => by rcases h with h | h; exact h; omega))
    obtain ⟨z0, z1, z2, z3, z4⟩ := HBZ.out.cells
    unfold zeroT at z0 z1 z2 z3 z4
    have q0 := HBZ.out.frozen 0
    have q1 := HBZ.out.frozen 1
    have q2 := HBZ.out.frozen 2
    have q3 := HBZ.out.frozen 3
    have q4 := HBZ.out.frozen 4
    have HU := hide hw9
    clear F9 hw9
    go_wp2_with (first | (rw [← HW3.out]; clear HW3) | (rw [← HU.out]; clear HU))
    exact bodyPost_ret (results_tb2 Try.results24 _ _ w.heap.size HB9.out rfl) rfl ⟨HF9.out, .inl ⟨rfl, HNO.out⟩⟩
  have i16b : decide (s.id > 16) = false := by simpa using i16
  have HI2 := hide i16
  have HCA := hide (check_any s HTS.out)
  unfold Tb.agg at HCA
  go_wp2_with (first | (rw [← HW3.out]; clear HW3) | fail)
  refine HCA.out.mono ?_
  rintro e w4 ⟨rfl, f4⟩
  replace HBZ := hide (HBZ.out.fr f4 (fun h => h))
  replace HBS := hide (HBS.out.fr f4 (fun h => h))
  replace HTS := hide (HTS.out.fr f4 (fun _ _ h => h))
  replace HVS := hide (HVS.out.fr f4 (fun _ _ h => h))
  replace HFW := hide (HFW.out.two f4)
  replace HSW := hide (Nat.le_trans HSW.out f4.size)
  clear HCA f4 x0 x1 x2 x3 x4
  obtain ⟨x0, x1, x2, x3, x4⟩ := HBS.out.cells
  by_cases hk : chkP s.name s.C s.K = 0
  case neg =>
    have hkb : (chkP s.name s.C s.K != 0) = true := by simp [hk]
    have HKN := hide hk
    have HNO : Hid (∀ s', ¬ GoodR R s') := hide (fun s' hg => by have e := HGK.out s' hg; simp only [Tb.key, Prod.mk.injEq] at e; have h := hg.2.2.2; rw [← e.2.1, ← e.2.2.1, ← e.2.2.2.1] at h; exact HKN.out h)
    clear HKN
    obtain ⟨w9, hw9⟩ : ∃ w9, w9 = ((((w4.setCell ⟨w.heap.size, 0, none⟩ (.int .i64 0)).setCell ⟨w.heap.size, 1, none⟩ (.string ⟨#[]⟩)).setCell ⟨w.heap.size, 2, none⟩ (.slice none 0 0)).setCell ⟨w.heap.size, 3, none⟩ (.slice none 0 0)).setCell ⟨w.heap.size, 4, none⟩ (.bool false) := ⟨_, rfl⟩
    have HB9 := hide (HBZ.out.fill (t' := zeroT) w9 hw9)
    have F9 := fr_fill (t' := zeroT) w9 hw9
    have HF9 := hide ((HFW.out.trans F9).mono (Y := fun _ => False) (fun k hk h => by rcases h with h | h; exact h; omega))
    obtain ⟨z0, z1, z2, z3, z4⟩ := HBZ.out.cells
    unfold zeroT at z0 z1 z2 z3 z4
    have q0 := HBZ.out.frozen 0
    have q1 := HBZ.out.frozen 1
    have q2 := HBZ.out.frozen 2
    have q3 := HBZ.out.frozen 3
    have q4 := HBZ.out.frozen 4
    have HU := hide hw9
    clear F9 hw9
    go_wp2_with (first | (rw [← HU.out]; clear HU))
    exact bodyPost_ret (results_tb2 Try.results24 _ _ w.heap.size HB9.out rfl) rfl ⟨HF9.out, .inl ⟨rfl, HNO.out⟩⟩
  have hkb : (chkP s.name s.C s.K != 0) = false := by simp [hk]
  have HKY := hide hk
  rw [hk]
  clear hk hkb
  have HRO := hide (row_any s HTS.out)
  unfold Tb.agg at HRO
  go_wp2_with fail
  refine HRO.out.mono ?_
  rintro e w5 ⟨v, rfl, hg⟩
  obtain ⟨av, cv, rfl, hvv, _, _⟩ := hg.vals
  have f5 := hg.2.1
  obtain ⟨sl, hsl⟩ : ∃ sl, (rowP s).length = sl := ⟨_, rfl⟩
  rw [hsl]
  have HEQ := hide (equal_any av (some ⟨g, off, none⟩) sl n cv c (rowP s) R hvv (HVS.out.fr f5 (fun _ _ h => h)) hsl HN.out (by have := HSL.out; omega))
  replace HBZ := hide (HBZ.out.fr f5 (fun h => h))
  replace HBS := hide (HBS.out.fr f5 (fun h => h))
  replace HTS := hide (HTS.out.fr f5 (fun _ _ h => h))
  replace HFW := hide (HFW.out.two f5)
  replace HSW := hide (Nat.le_trans HSW.out f5.size)
  clear HRO f5 hg hvv HVS x0 x1 x2 x3 x4 hsl
  go_wp2_with fail
  refine HEQ.out.mono ?_
  rintro e w6 ⟨⟨heq, rfl⟩ | ⟨hne, rfl⟩, f6⟩
  · have HRE := hide heq
    replace HBZ := hide (HBZ.out.fr f6 (fun h => h))
    replace HBS := hide (HBS.out.fr f6 (fun h => h))
    replace HTS := hide (HTS.out.fr f6 (fun _ _ h => h))
    replace HFW := hide (HFW.out.two f6)
    replace HSW := hide (Nat.le_trans HSW.out f6.size)
    clear HEQ f6 heq
    obtain ⟨x0, x1, x2, x3, x4⟩ := HBS.out.cells
    obtain ⟨w9, hw9⟩ : ∃ w9, w9 = ((((w6.setCell ⟨w.heap.size, 0, none⟩ (.int .i64 s.id)).setCell ⟨w.heap.size, 1, none⟩ (.string s.name)).setCell ⟨w.heap.size, 2, none⟩ (.slice s.ca s.cn s.cc)).setCell ⟨w.heap.size, 3, none⟩ (.slice s.ka s.kn s.kc)).setCell ⟨w.heap.size, 4, none⟩ (.bool s.ix) := ⟨_, rfl⟩
    have HB9 := hide (HBZ.out.fill (t' := s) w9 hw9)
    have F9 := fr_fill (t' := s) w9 hw9
    have HF9 := hide ((HFW.out.trans F9).mono (Y := fun _ => False) (fun k hk h => by rcases h with h | h; exact h; omega))
    have HT9 := hide ((HTS.out.fr F9 (fun k hk h => by have := HS1.out; omega)).mono (Q := fun g => w.heap.size ≤ g) (fun k hk => by have := HS1.out; omega))
    obtain ⟨z0, z1, z2, z3, z4⟩ := HBZ.out.cells
    unfold zeroT at z0 z1 z2 z3 z4
    have q0 := HBZ.out.frozen 0
    have q1 := HBZ.out.frozen 1
    have q2 := HBZ.out.frozen 2
    have q3 := HBZ.out.frozen 3
    have q4 := HBZ.out.frozen 4
    have HU := hide hw9
    clear F9 hw9
    go_wp2_with (rw [← HU.out]; clear HU)
    exact bodyPost_ret (results_tb2 Try.results24 _ _ w.heap.size HB9.out rfl) rfl ⟨HF9.out, .inr ⟨s, rfl, ⟨HRE.out, by have := HI1.out; omega, by have := HI2.out; omega, HKY.out⟩, HT9.out⟩⟩
  · have HRN := hide hne
    have HNO : Hid (∀ s', ¬ GoodR R s') := hide (fun s' hg => HRN.out ((rowP_key (HGK.out s' hg)).trans hg.1))
    replace HBZ := hide (HBZ.out.fr f6 (fun h => h))
    replace HFW := hide (HFW.out.two f6)
    clear HEQ f6 hne
    obtain ⟨w9, hw9⟩ : ∃ w9, w9 = ((((w6.setCell ⟨w.heap.size, 0, none⟩ (.int .i64 0)).setCell ⟨w.heap.size, 1, none⟩ (.string ⟨#[]⟩)).setCell ⟨w.heap.size, 2, none⟩ (.slice none 0 0)).setCell ⟨w.heap.size, 3, none⟩ (.slice none 0 0)).setCell ⟨w.heap.size, 4, none⟩ (.bool false) := ⟨_, rfl⟩
    have HB9 := hide (HBZ.out.fill (t' := zeroT) w9 hw9)
    have F9 := fr_fill (t' := zeroT) w9 hw9
    have HF9 := hide ((HFW.out.trans F9).mono (Y := fun _ => False) (fun k hk h => by rcases h with h | h; exact h; omega))
    obtain ⟨z0, z1, z2, z3, z4⟩ := HBZ.out.cells
    unfold zeroT at z0 z1 z2 z3 z4
    have q0 := HBZ.out.frozen 0
    have q1 := HBZ.out.frozen 1
    have q2 := HBZ.out.frozen 2
    have q3 := HBZ.out.frozen 3
    have q4 := HBZ.out.frozen 4
    have HU := hide hw9
    clear F9 hw9
    go_wp2_with (first | (rw [← HU.out]; clear HU))
    exact bodyPost_ret (results_tb2 Try.results24 _ _ w.heap.size HB9.out rfl) rfl ⟨HF9.out, .inl ⟨rfl, HNO.out⟩⟩
end Go.Proofs.Ytdeopneififnnaa
