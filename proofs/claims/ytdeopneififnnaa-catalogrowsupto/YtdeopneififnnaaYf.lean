/- The document's Read: the other rows. -/
import Derived.Test.YtdeopneififnnaaYe
import Derived.Test.YtdeopneififnnaaYa
import Derived.Test.YtdeopneififnnaaWb
namespace Go.Proofs.Ytdeopneififnnaa
open Go.RowKit
set_option maxRecDepth 100000
set_option linter.unusedVariables false
set_option linter.unusedSimpArgs false

/-- Between two rounds: some columns are there. -/
def ColK (Wd : World) (Bt : Nat) (t : Tb) (cs : List Cn) (j : Nat) (W : World) : Prop :=
  ∃ a2 c2, BoxD W Bt { t with ca := a2, cn := j, cc := c2 } ∧ W.ownsRow 0 37 2 (.slice a2 j c2) j (encC (cs.take j)) ∧ (∀ k, (Value.slice a2 j c2).ownBlock = some k → Wd.heap.size ≤ k) ∧ Fr Wd W (fun k => k = Bt)
/-- Between two rounds: some keys are there. -/
def KeyK (Wd : World) (Bt : Nat) (t : Tb) (ks : List ByteArray) (j : Nat) (W : World) : Prop :=
  ∃ a2 c2, BoxD W Bt { t with ka := a2, kn := j, kc := c2 } ∧ W.ownsRow 0 9 1 (.slice a2 j c2) j ((ks.take j).map Value.string) ∧ (∀ k, (Value.slice a2 j c2).ownBlock = some k → Wd.heap.size ≤ k) ∧ Fr Wd W (fun k => k = Bt)
theorem chk_kinds {nm : ByteArray} {C : List Cn} {K : List ByteArray} (h : chkP nm C K = 0) : ∀ c ∈ C, kindP c = true := by
  unfold chkP at h
  split at h
  · cases h
  · split at h
    · cases h
    · split at h
      · cases h
      · rename_i hh
        exact Classical.not_not.1 hh
theorem good_kind {R : List Vl} {s : Tb} (h : GoodR R s) {cnt j : Nat} {cs : ByteArray} {ck : Int} (h3 : (at_ R 3).int = (cnt : Int)) (hj : (colsR R cnt)[j]? = some ⟨cs, ck⟩) : ck = 1 ∨ ck = 2 := by
  have hc := good_count h
  rw [h3] at hc
  obtain rfl : cnt = s.C.length := by omega
  rw [← h.1, cols_row] at hj
  have := chk_kinds h.2.2.2 _ (List.mem_of_getElem? hj)
  unfold kindP at this
  simpa using this
theorem wrap_nat {p : Nat} (h : p ≤ 4194304) : IntKind.i64.wrap (p : Int) = (p : Int) := by
  rw [IntKind.wrap_i64]; omega
theorem good_id {R : List Vl} {s : Tb} (h : GoodR R s) : (at_ R 0).int = s.id := by rw [← h.1]; rfl
set_option maxHeartbeats 16000000 in
theorem rread_yes {P : Nat → Prop} {w : World} (g off n c : Nat) (R : List Vl) (hR : ValsIn P w (some ⟨g, off, none⟩) R) (hn : R.length = n) (hc : n ≤ c) (hb : n ≤ 2097152) (cnt : Nat) (hkb : n ≤ 1048580 + 2 * cnt) (h4 : 4 ≤ n) (h3 : (at_ R 3).int = (cnt : Int)) (h8 : cnt ≤ 8) (hlen : 4 + 2 * cnt ≤ n) (h64 : In64 (at_ R 0).int) : Calls Try.prog 25 #[.slice (some ⟨g, off, none⟩) n c] w (ReadR R w) := by
  obtain ⟨w1, hw1⟩ : ∃ w1, w1 = w.alloc (.cells #[.int .i64 0, .string ⟨#[]⟩, .slice none 0 0, .slice none 0 0, .bool false] 43) := ⟨_, rfl⟩
  have b1 : BoxD w1 w.heap.size zeroT := by rw [hw1]; exact heap_alloc_new w _
  have f1 : Fr w w1 (fun _ => False) := by rw [hw1]; exact Fr.alloc w _ _
  have hsz1 : w1.heap.size = w.heap.size + 1 := by rw [hw1]; simp
  have HCE := hide (show ∀ V, Fr w V (fun _ => False) → ∀ i, i < n → V.cell? ⟨g, off + i * 3 + 1, none⟩ = some (.int .i64 (at_ R i).int) ∧ V.cell? ⟨g, off + i * 3 + 2, none⟩ = some (.string (at_ R i).text) from fun V hV i hi => by
    obtain ⟨g', off', e, _, _, q1, q2⟩ := (hR.fr hV (fun _ _ h => h)) i _ (at_eq (by omega))
    cases e
    exact ⟨q1, q2⟩)
  have HRV := hide hR
  obtain ⟨x3, _⟩ := HCE.out w1 f1 3 (by omega)
  obtain ⟨x1, _⟩ := HCE.out w1 f1 0 (by omega)
  rw [h3] at x3
  have HC3 := hide h3
  have HN := hide hn
  have HBZ := hide b1
  have HFW := hide f1
  have HS1 := hide hsz1
  have HW := hide hw1
  have H64 := hide h64
  have hlt4 : ¬ ((n : Int) < 4) := by omega
  have hlt4b : decide ((n : Int) < 4) = false := by simp; omega
  have h3n : 3 < n := by omega
  have h0n : 0 < n := by omega
  have hc0 : ¬ ((cnt : Int) < 0) := by omega
  have hc0b : decide ((cnt : Int) < 0) = false := by simp
  have hc8 : ¬ ((cnt : Int) > 8) := by omega
  have hc8b : decide ((cnt : Int) > 8) = false := by simp; omega
  have hl4 : ¬ ((n : Int) < 4 + 2 * (cnt : Int)) := by omega
  have hl4b : decide ((n : Int) < 4 + 2 * (cnt : Int)) = false := by simp; omega
  clear hR hn b1 f1 hsz1 hw1 h3 h64
  generalize hi0 : (at_ R 0).int = i0 at *
  have HI0 := hide hi0
  by_cases i1 : i0 < 1
  · have i1b : decide (i0 < 1) = true := by simpa using i1
    have HNO : Hid (∀ s', ¬ GoodR R s') := hide (fun s' hg => by have := good_id hg; have := hg.2.1; omega)
    clear hi0
    go_enter Try.func25, Try.ntmps25
    obtain ⟨w9, hw9⟩ : ∃ w9, w9 = ((((w1.setCell ⟨w.heap.size, 0, none⟩ (.int .i64 0)).setCell ⟨w.heap.size, 1, none⟩ (.string ⟨#[]⟩)).setCell ⟨w.heap.size, 2, none⟩ (.slice none 0 0)).setCell ⟨w.heap.size, 3, none⟩ (.slice none 0 0)).setCell ⟨w.heap.size, 4, none⟩ (.bool false) := ⟨_, rfl⟩
    have HB9 := hide (HBZ.out.fill (t' := zeroT) w9 hw9)
    have F9 := fr_fill (t' := zeroT) w9 hw9
    have HF9 := hide ((HFW.out.trans F9).mono (Y := fun _ => False) (fun k hk h => by rcases h with h | h; exact h; omega))
    obtain ⟨z0, z1, z2, z3, z4⟩ := HBZ.out.cells
    unfold zeroT at z0 z1 z2 z3 z4
    have q0 := HBZ.out.frozen 0
    have q1 := HBZ.out.frozen 1
    have q2 := HBZ.out.frozen 2
    have q3 := HBZ.out.frozen 3
    have q4 := HBZ.out.frozen 4
    have HU := hide hw9
    clear F9 hw9
    go_wp2_with (first | (rw [← HW.out]; clear HW) | (rw [← HU.out]; clear HU))
    exact bodyPost_ret (results_td2 Try.results25 _ _ w.heap.size HB9.out rfl) rfl ⟨HF9.out, .inl ⟨rfl, HNO.out⟩⟩
  have i1b : decide (i0 < 1) = false := by simpa using i1
  by_cases i16 : i0 > 16
  · have i16b : decide (i0 > 16) = true := by simpa using i16
    have HNO : Hid (∀ s', ¬ GoodR R s') := hide (fun s' hg => by have := good_id hg; have := hg.2.2.1; omega)
    clear hi0
    go_enter Try.func25, Try.ntmps25
    obtain ⟨w9, hw9⟩ : ∃ w9, w9 = ((((w1.setCell ⟨w.heap.size, 0, none⟩ (.int .i64 0)).setCell ⟨w.heap.size, 1, none⟩ (.string ⟨#[]⟩)).setCell ⟨w.heap.size, 2, none⟩ (.slice none 0 0)).setCell ⟨w.heap.size, 3, none⟩ (.slice none 0 0)).setCell ⟨w.heap.size, 4, none⟩ (.bool false) := ⟨_, rfl⟩
    have HB9 := hide (HBZ.out.fill (t' := zeroT) w9 hw9)
    have F9 := fr_fill (t' := zeroT) w9 hw9
    have HF9 := hide ((HFW.out.trans F9).mono (Y := fun _ => False) (fun k hk h => by rcases h with h | h; exact h; omega))
    obtain ⟨z0, z1, z2, z3, z4⟩ := HBZ.out.cells
    unfold zeroT at z0 z1 z2 z3 z4
    have q0 := HBZ.out.frozen 0
    have q1 := HBZ.out.frozen 1
    have q2 := HBZ.out.frozen 2
    have q3 := HBZ.out.frozen 3
    have q4 := HBZ.out.frozen 4
    have HU := hide hw9
    clear F9 hw9
    go_wp2_with (first | (rw [← HW.out]; clear HW) | (rw [← HU.out]; clear HU))
    exact bodyPost_ret (results_td2 Try.results25 _ _ w.heap.size HB9.out rfl) rfl ⟨HF9.out, .inl ⟨rfl, HNO.out⟩⟩
  have i16b : decide (i0 > 16) = false := by simpa using i16
  have HI1 : Hid (1 ≤ i0 ∧ i0 ≤ 16) := hide (by omega)
  clear hi0
  go_enter Try.func25, Try.ntmps25
  go_wp2_with (rw [← HW.out]; clear HW)
  generalize hs1 : (at_ R 1).text = s1 at *
  generalize hi2 : (at_ R 2).int = i2 at *
  have hFD := HFW.out.two (Fr.drew w1 _)
  have hSx : ∀ V, Fr w1.drew V (fun _ => False) → (V.cell? ⟨g, off + 0 * 3 + 1, none⟩ = some (.int .i64 i0) ∧ V.cell? ⟨g, off + 1 * 3 + 2, none⟩ = some (.string s1) ∧ V.cell? ⟨g, off + 2 * 3 + 1, none⟩ = some (.int .i64 i2) ∧ True) := fun V hV => ⟨by rw [← HI0.out]; exact (HCE.out V (hFD.two hV) 0 (by omega)).1, by rw [← hs1]; exact (HCE.out V (hFD.two hV) 1 (by omega)).2, by rw [← hi2]; exact (HCE.out V (hFD.two hV) 2 (by omega)).1, trivial⟩
  replace HBZ := hide (HBZ.out.fr (Fr.drew w1 (fun _ => False)) (fun h => h))
  replace HS1 : Hid (w1.drew.heap.size = w.heap.size + 1) := hide HS1.out
  have HF2 := hide hFD
  refine wp_region_K (fun z => decide (z < 15)) (fun U : World => Fr w1.drew U (fun _ => False)) (by kernel_rfl) ?_
  obtain ⟨b2, hb2⟩ : ∃ b, b = decide (i2 = 1) := ⟨_, rfl⟩
  have hb2e : (i2 == 1) = b2 := by rw [hb2]; rfl
  have HB2E := hide hb2
  clear hb2
  generalize w1.drew = U0 at *
  have hS : (fun U : World => Fr U0 U (fun _ => False)) U0 := Fr.refl _ _
  clear x3 x1 hlt4 hlt4b hc0 hc0b hc8 hc8b hl4 hl4b hFD
  refine wpAnyK_takeTo 0 (some 51) (.slice (some ⟨g, off, none⟩) n c) [1, 2, 3, 13, 15] rfl rfl (by kernel_rfl) (by kernel_rfl) (by kernel_rfl) (by kernel_rfl) (fun _ _ _ h => h) hS (Or.inl ⟨rfl, fun w1 hw1 => by obtain ⟨q0, q1, q2, q3⟩ := hSx _ hw1; go_simp; try (intro h; omega)⟩) ?_
  simp only [Act.put, List.setIfInBounds_toArray, List.set_cons_zero, List.set_cons_succ]
  refine wpAnyK_takeTo 1 (some 52) (.pointer (some ⟨g, off + 0 * 3, none⟩)) [2, 3, 13, 15] rfl rfl (by kernel_rfl) (by kernel_rfl) (by kernel_rfl) (by kernel_rfl) (fun _ _ _ h => h) hS (Or.inl ⟨rfl, fun w1 hw1 => by obtain ⟨q0, q1, q2, q3⟩ := hSx _ hw1; go_simp; try (intro h; omega)⟩) ?_
  simp only [Act.put, List.setIfInBounds_toArray, List.set_cons_zero, List.set_cons_succ]
  refine wpAnyK_takeTo 2 (some 53) (.pointer (some ⟨g, off + 0 * 3 + 1, none⟩)) [3, 13, 15] rfl rfl (by kernel_rfl) (by kernel_rfl) (by kernel_rfl) (by kernel_rfl) (fun _ _ _ h => h) hS (Or.inl ⟨rfl, fun w1 hw1 => by obtain ⟨q0, q1, q2, q3⟩ := hSx _ hw1; go_simp; try (intro h; omega)⟩) ?_
  simp only [Act.put, List.setIfInBounds_toArray, List.set_cons_zero, List.set_cons_succ]
  refine wpAnyK_takeTo 3 (some 54) (.int .i64 i0) [13, 15] rfl rfl (by kernel_rfl) (by kernel_rfl) (by kernel_rfl) (by kernel_rfl) (fun _ _ _ h => h) hS (Or.inl ⟨rfl, fun w1 hw1 => by obtain ⟨q0, q1, q2, q3⟩ := hSx _ hw1; go_simp; try (intro h; omega)⟩) ?_
  simp only [Act.put, List.setIfInBounds_toArray, List.set_cons_zero, List.set_cons_succ]
  refine wpAnyK_takeTo 4 (some 55) (.slice (some ⟨g, off, none⟩) n c) [5, 6, 7, 13, 15] rfl rfl (by kernel_rfl) (by kernel_rfl) (by kernel_rfl) (by kernel_rfl) (fun _ _ _ h => h) hS (Or.inl ⟨rfl, fun w1 hw1 => by obtain ⟨q0, q1, q2, q3⟩ := hSx _ hw1; go_simp; try (intro h; omega)⟩) ?_
  simp only [Act.put, List.setIfInBounds_toArray, List.set_cons_zero, List.set_cons_succ]
  refine wpAnyK_takeTo 5 (some 56) (.pointer (some ⟨g, off + 1 * 3, none⟩)) [6, 7, 13, 15] rfl rfl (by kernel_rfl) (by kernel_rfl) (by kernel_rfl) (by kernel_rfl) (fun _ _ _ h => h) hS (Or.inl ⟨rfl, fun w1 hw1 => by obtain ⟨q0, q1, q2, q3⟩ := hSx _ hw1; go_simp; try (intro h; omega)⟩) ?_
  simp only [Act.put, List.setIfInBounds_toArray, List.set_cons_zero, List.set_cons_succ]
  refine wpAnyK_takeTo 6 (some 57) (.pointer (some ⟨g, off + 1 * 3 + 2, none⟩)) [7, 13, 15] rfl rfl (by kernel_rfl) (by kernel_rfl) (by kernel_rfl) (by kernel_rfl) (fun _ _ _ h => h) hS (Or.inl ⟨rfl, fun w1 hw1 => by obtain ⟨q0, q1, q2, q3⟩ := hSx _ hw1; go_simp; try (intro h; omega)⟩) ?_
  simp only [Act.put, List.setIfInBounds_toArray, List.set_cons_zero, List.set_cons_succ]
  refine wpAnyK_takeTo 7 (some 58) (.string s1) [13, 15] rfl rfl (by kernel_rfl) (by kernel_rfl) (by kernel_rfl) (by kernel_rfl) (fun _ _ _ h => h) hS (Or.inl ⟨rfl, fun w1 hw1 => by obtain ⟨q0, q1, q2, q3⟩ := hSx _ hw1; go_simp; try (intro h; omega)⟩) ?_
  simp only [Act.put, List.setIfInBounds_toArray, List.set_cons_zero, List.set_cons_succ]
  refine wpAnyK_takeTo 8 (some 59) (.slice (some ⟨g, off, none⟩) n c) [9, 10, 11, 12, 13, 15] rfl rfl (by kernel_rfl) (by kernel_rfl) (by kernel_rfl) (by kernel_rfl) (fun _ _ _ h => h) hS (Or.inl ⟨rfl, fun w1 hw1 => by obtain ⟨q0, q1, q2, q3⟩ := hSx _ hw1; go_simp; try (intro h; omega)⟩) ?_
  simp only [Act.put, List.setIfInBounds_toArray, List.set_cons_zero, List.set_cons_succ]
  refine wpAnyK_takeTo 9 (some 60) (.pointer (some ⟨g, off + 2 * 3, none⟩)) [10, 11, 12, 13, 15] rfl rfl (by kernel_rfl) (by kernel_rfl) (by kernel_rfl) (by kernel_rfl) (fun _ _ _ h => h) hS (Or.inl ⟨rfl, fun w1 hw1 => by obtain ⟨q0, q1, q2, q3⟩ := hSx _ hw1; go_simp; try (intro h; omega)⟩) ?_
  simp only [Act.put, List.setIfInBounds_toArray, List.set_cons_zero, List.set_cons_succ]
  refine wpAnyK_takeTo 10 (some 61) (.pointer (some ⟨g, off + 2 * 3 + 1, none⟩)) [11, 12, 13, 15] rfl rfl (by kernel_rfl) (by kernel_rfl) (by kernel_rfl) (by kernel_rfl) (fun _ _ _ h => h) hS (Or.inl ⟨rfl, fun w1 hw1 => by obtain ⟨q0, q1, q2, q3⟩ := hSx _ hw1; go_simp; try (intro h; omega)⟩) ?_
  simp only [Act.put, List.setIfInBounds_toArray, List.set_cons_zero, List.set_cons_succ]
  refine wpAnyK_takeTo 11 (some 62) (.int .i64 i2) [12, 13, 15] rfl rfl (by kernel_rfl) (by kernel_rfl) (by kernel_rfl) (by kernel_rfl) (fun _ _ _ h => h) hS (Or.inl ⟨rfl, fun w1 hw1 => by obtain ⟨q0, q1, q2, q3⟩ := hSx _ hw1; go_simp; try (intro h; omega)⟩) ?_
  simp only [Act.put, List.setIfInBounds_toArray, List.set_cons_zero, List.set_cons_succ]
  refine wpAnyK_takeTo 12 (some 63) (.bool b2) [13, 15] rfl rfl (by kernel_rfl) (by kernel_rfl) (by kernel_rfl) (by kernel_rfl) (fun _ _ _ h => h) hS (Or.inl ⟨rfl, fun w1 hw1 => by obtain ⟨q0, q1, q2, q3⟩ := hSx _ hw1; go_simp; try (intro h; omega)⟩) ?_
  simp only [Act.put, List.setIfInBounds_toArray, List.set_cons_zero, List.set_cons_succ]
  refine wpAnyK_takeTo 13 (some 64) (.agg #[.int .i64 i0, .string s1, .slice none 0 0, .slice none 0 0, .bool b2]) [15] rfl rfl (by kernel_rfl) (by kernel_rfl) (by kernel_rfl) (by kernel_rfl) (fun _ _ _ h => h) hS (Or.inl ⟨rfl, fun w1 hw1 => by obtain ⟨q0, q1, q2, q3⟩ := hSx _ hw1; go_simp; try (intro h; omega)⟩) ?_
  simp only [Act.put, List.setIfInBounds_toArray, List.set_cons_zero, List.set_cons_succ]
  have FZ := Fr.alloc U0 (.cells #[.int .i64 0, .string ⟨#[]⟩, .slice none 0 0, .slice none 0 0, .bool false] 43) (fun _ => False)
  have bz : BoxD (U0.alloc (.cells #[.int .i64 0, .string ⟨#[]⟩, .slice none 0 0, .slice none 0 0, .bool false] 43)) U0.heap.size zeroT := heap_alloc_new U0 _
  obtain ⟨Bt, hBt⟩ : ∃ Bt, Bt = U0.heap.size := ⟨_, rfl⟩
  rw [← hBt] at bz
  obtain ⟨U1, hU1⟩ : ∃ U1, U1 = U0.alloc (.cells #[.int .i64 0, .string ⟨#[]⟩, .slice none 0 0, .slice none 0 0, .bool false] 43) := ⟨_, rfl⟩
  rw [← hU1] at FZ bz
  refine wpAnyK_one (i := 14) (by kernel_rfl) rfl rfl ?_
  go_simp
  rw [← hU1, ← hBt]
  refine ⟨FZ, ?_⟩
  obtain ⟨z0, z1, z2, z3, z4⟩ := bz.cells
  have q0 := bz.frozen 0
  have q1 := bz.frozen 1
  have q2 := bz.frozen 2
  have q3 := bz.frozen 3
  have q4 := bz.frozen 4
  obtain ⟨U2, hU2⟩ : ∃ U2, U2 = ((((U1.setCell ⟨Bt, 0, none⟩ (.int .i64 i0)).setCell ⟨Bt, 1, none⟩ (.string s1)).setCell ⟨Bt, 2, none⟩ (.slice none 0 0)).setCell ⟨Bt, 3, none⟩ (.slice none 0 0)).setCell ⟨Bt, 4, none⟩ (.bool b2) := ⟨_, rfl⟩
  have HBT := hide (bz.fill (t' := ⟨i0, s1, none, 0, 0, [], none, 0, 0, [], b2⟩) U2 hU2)
  have F2 := fr_fill (t' := ⟨i0, s1, none, 0, 0, [], none, 0, 0, [], b2⟩) U2 hU2
  have FT : Fr U0 U2 (fun _ => False) := (FZ.trans F2).mono (fun k hk h => by rcases h with h | h; exact h; omega)
  have HU2 := hide hU2
  have HBt := hide hBt
  unfold zeroT at z0 z1 z2 z3 z4
  clear hU1 hU2 hBt
  refine wpAnyK_one (i := 15) (by kernel_rfl) rfl rfl ?_
  go_simp
  rw [← HU2.out]
  refine wpAnyK_done (by kernel_rfl) ?_ _
  have HFT := hide (HF2.out.two FT)
  replace HBZ := hide (HBZ.out.fr FT (fun h => h))
  clear hS hSx FZ bz z0 z1 z2 z3 z4 q0 q1 q2 q3 q4 F2 FT HU2
  have HZT : Hid (w.heap.size < Bt) := hide (by have := HBt.out; have := HS1.out; omega)
  have HI2 := hide hi2
  have HSS := hide hs1
  clear hi2 hs1
  go_wp2_with fail
  go_loopw [5, 6] (fun va vi wr => ∃ j : Nat, j ≤ cnt ∧ vi = .int .i64 (j : Int) ∧ va = .int .i64 ((4 + 2 * j : Nat) : Int) ∧ ColK U2 Bt ⟨i0, s1, none, 0, 0, [], none, 0, 0, [], b2⟩ (colsR R cnt) j wr) (fun _ vi _ => cnt - (intOf vi).toNat)
  case atStart => exact ⟨0, Nat.zero_le _, rfl, rfl, none, 0, HBT.out, World.ownsRow_nil _ 0 37 2, fun k hk => (by cases hk), Fr.refl _ _⟩
  case round =>
    rename World => Y
    obtain ⟨j, hj, rfl, rfl, a2, c2, hbx, hrw, hfs, hfy⟩ := hrel
    have HBX := hide hbx
    have HRW := hide hrw
    have HFS := hide hfs
    have HFY := hide hfy
    obtain ⟨p, hp⟩ : ∃ p, p = 4 + 2 * j := ⟨_, rfl⟩
    rw [← hp]
    have hwy : Fr w Y (fun _ => False) := (HFT.out.trans hfy).mono (fun k hk h => by rcases h with h | h; exact h; have := HZT.out; omega)
    have HFW := hide hwy
    have HBZ' := hide (HBZ.out.fr hfy (fun h => by have := HZT.out; omega))
    have x3 := (HCE.out Y hwy 3 (by omega)).1
    rw [HC3.out] at x3
    have HP := hide hp
    have h3n : 3 < n := by omega
    clear hbx hrw hfs hfy hwy
    rcases Nat.lt_or_ge j cnt with hlt | hge
    · have hltb : decide ((j : Int) < (cnt : Int)) = true := by simp; omega
      have hlti : (j : Int) < (cnt : Int) := by omega
      have hpn : p + 1 < n := by omega
      obtain ⟨ck, hck⟩ : ∃ ck, ck = (at_ R (p + 1)).int := ⟨_, rfl⟩
      obtain ⟨cs, hcs⟩ : ∃ cs, cs = (at_ R p).text := ⟨_, rfl⟩
      have e1 := (HCE.out Y HFW.out (p + 1) hpn).1
      rw [← hck] at e1
      have HCS : Hid ((colsR R cnt)[j]? = some ⟨cs, ck⟩) := hide (by
        unfold colsR
        rw [List.getElem?_map, List.getElem?_range hlt]
        simp only [Option.map_some, colR]
        rw [hcs, hck, hp, show 5 + 2 * j = 4 + 2 * j + 1 by omega])
      have HCT := hide hcs
      have HCKK := hide hck
      have HNK : Hid (∀ s', GoodR R s' → ck = 1 ∨ ck = 2) := hide (fun s' hg => good_kind hg HC3.out HCS.out)
      have hip : (((p : Int) + 1).toNat) = p + 1 := by omega
      clear hcs hck hp hlt
      by_cases k0 : ck < 0
      · have k0b : decide (ck < 0) = true := by simpa using k0
        have HNO : Hid (∀ s', ¬ GoodR R s') := hide (fun s' hg => by rcases HNK.out s' hg with h | h <;> omega)
        obtain ⟨w9, hw9⟩ : ∃ w9, w9 = ((((Y.setCell ⟨w.heap.size, 0, none⟩ (.int .i64 0)).setCell ⟨w.heap.size, 1, none⟩ (.string ⟨#[]⟩)).setCell ⟨w.heap.size, 2, none⟩ (.slice none 0 0)).setCell ⟨w.heap.size, 3, none⟩ (.slice none 0 0)).setCell ⟨w.heap.size, 4, none⟩ (.bool false) := ⟨_, rfl⟩
        have HB9 := hide (HBZ'.out.fill (t' := zeroT) w9 hw9)
        have F9 := fr_fill (t' := zeroT) w9 hw9
        have HF9 := hide ((HFW.out.trans F9).mono (Y := fun _ => False) (fun k hk h => by rcases h with h | h; exact h; omega))
        obtain ⟨z0, z1, z2, z3, z4⟩ := HBZ'.out.cells
        unfold zeroT at z0 z1 z2 z3 z4
        have q0 := HBZ'.out.frozen 0
        have q1 := HBZ'.out.frozen 1
        have q2 := HBZ'.out.frozen 2
        have q3 := HBZ'.out.frozen 3
        have q4 := HBZ'.out.frozen 4
        have HU := hide hw9
        clear F9 hw9
        go_wp2_with (first | (rw [← HU.out]; clear HU))
        exact bodyPost_ret (results_td2 Try.results25 _ _ w.heap.size HB9.out rfl) rfl ⟨HF9.out, .inl ⟨rfl, HNO.out⟩⟩
      have k0b : decide (ck < 0) = false := by simpa using k0
      by_cases k9 : ck > 9
      · have k9b : decide (ck > 9) = true := by simpa using k9
        have HNO : Hid (∀ s', ¬ GoodR R s') := hide (fun s' hg => by rcases HNK.out s' hg with h | h <;> omega)
        obtain ⟨w9, hw9⟩ : ∃ w9, w9 = ((((Y.setCell ⟨w.heap.size, 0, none⟩ (.int .i64 0)).setCell ⟨w.heap.size, 1, none⟩ (.string ⟨#[]⟩)).setCell ⟨w.heap.size, 2, none⟩ (.slice none 0 0)).setCell ⟨w.heap.size, 3, none⟩ (.slice none 0 0)).setCell ⟨w.heap.size, 4, none⟩ (.bool false) := ⟨_, rfl⟩
        have HB9 := hide (HBZ'.out.fill (t' := zeroT) w9 hw9)
        have F9 := fr_fill (t' := zeroT) w9 hw9
        have HF9 := hide ((HFW.out.trans F9).mono (Y := fun _ => False) (fun k hk h => by rcases h with h | h; exact h; omega))
        obtain ⟨z0, z1, z2, z3, z4⟩ := HBZ'.out.cells
        unfold zeroT at z0 z1 z2 z3 z4
        have q0 := HBZ'.out.frozen 0
        have q1 := HBZ'.out.frozen 1
        have q2 := HBZ'.out.frozen 2
        have q3 := HBZ'.out.frozen 3
        have q4 := HBZ'.out.frozen 4
        have HU := hide hw9
        clear F9 hw9
        go_wp2_with (first | (rw [← HU.out]; clear HU))
        exact bodyPost_ret (results_td2 Try.results25 _ _ w.heap.size HB9.out rfl) rfl ⟨HF9.out, .inl ⟨rfl, HNO.out⟩⟩
      have k9b : decide (ck > 9) = false := by simpa using k9
      have e2 := (HCE.out Y HFW.out p (by omega)).2
      rw [← HCT.out] at e2
      obtain ⟨p1, hp1⟩ : ∃ p1, p1 = p + 1 := ⟨_, rfl⟩
      rw [← hp1] at e1
      have hp1i : (p : Int) + 1 = (p1 : Int) := by omega
      have hpn1 : p1 < n := by omega
      have hpn0 : p < n := by omega
      have HP1 := hide hp1
      clear hp1 hpn hip
      go_wp2_with fail
      have hSx : ∀ V, Fr Y.drew V (fun _ => False) → (V.cell? ⟨Bt, 2, none⟩ = some (.slice a2 j c2) ∧ V.cell? ⟨g, off + p * 3 + 2, none⟩ = some (.string cs) ∧ V.cell? ⟨g, off + p1 * 3 + 1, none⟩ = some (.int .i64 ck)) := fun V hV => by
        have hd := (Fr.drew Y (fun _ => False)).two hV
        refine ⟨((HBX.out.fr hd (fun h => h)).cells).2.2.1, ?_, ?_⟩
        · rw [HCT.out]; exact (HCE.out V (HFW.out.two hd) p (by omega)).2
        · rw [HCKK.out, ← HP1.out]; exact (HCE.out V (HFW.out.two hd) p1 (by omega)).1
      refine wp_region_K (fun z => decide (z < 15)) (fun V : World => Fr Y.drew V (fun _ => False)) (by kernel_rfl) ?_
      obtain ⟨V0, hV0⟩ : ∃ V0, V0 = Y.drew := ⟨_, rfl⟩
      have F0 : Fr Y V0 (fun _ => False) := by rw [hV0]; exact Fr.drew Y _
      rw [← hV0] at hSx ⊢
      have hS : (fun V : World => Fr V0 V (fun _ => False)) V0 := Fr.refl _ _
      clear hV0 x3 e1 e2
      refine wpAnyK_takeTo 0 (some 90) (.pointer (some ⟨Bt, 2, none⟩)) [1, 15, 16, 17] rfl rfl (by kernel_rfl) (by kernel_rfl) (by kernel_rfl) (by kernel_rfl) (fun _ _ _ h => h) hS (Or.inl ⟨rfl, fun w1 hw1 => by obtain ⟨q0, q1, q2⟩ := hSx _ hw1; go_simp <;> try (rw [wrap_nat (by omega)])⟩) ?_
      simp only [Act.put, List.setIfInBounds_toArray, List.set_cons_zero, List.set_cons_succ]
      refine wpAnyK_takeTo 1 (some 91) (.slice a2 j c2) [15, 16, 17] rfl rfl (by kernel_rfl) (by kernel_rfl) (by kernel_rfl) (by kernel_rfl) (fun _ _ _ h => h) hS (Or.inl ⟨rfl, fun w1 hw1 => by obtain ⟨q0, q1, q2⟩ := hSx _ hw1; go_simp <;> try (rw [wrap_nat (by omega)])⟩) ?_
      simp only [Act.put, List.setIfInBounds_toArray, List.set_cons_zero, List.set_cons_succ]
      refine wpAnyK_takeTo 2 (some 92) (.slice (some ⟨g, off, none⟩) n c) [4, 5, 6, 13, 14, 15, 16, 17] rfl rfl (by kernel_rfl) (by kernel_rfl) (by kernel_rfl) (by kernel_rfl) (fun _ _ _ h => h) hS (Or.inl ⟨rfl, fun w1 hw1 => by obtain ⟨q0, q1, q2⟩ := hSx _ hw1; go_simp <;> try (rw [wrap_nat (by omega)])⟩) ?_
      simp only [Act.put, List.setIfInBounds_toArray, List.set_cons_zero, List.set_cons_succ]
      refine wpAnyK_takeTo 3 (some 93) (.int .i64 (p : Int)) [4, 5, 6, 13, 14, 15, 16, 17] rfl rfl (by kernel_rfl) (by kernel_rfl) (by kernel_rfl) (by kernel_rfl) (fun _ _ _ h => h) hS (Or.inl ⟨rfl, fun w1 hw1 => by obtain ⟨q0, q1, q2⟩ := hSx _ hw1; go_simp <;> try (rw [wrap_nat (by omega)])⟩) ?_
      simp only [Act.put, List.setIfInBounds_toArray, List.set_cons_zero, List.set_cons_succ]
      refine wpAnyK_takeTo 4 (some 94) (.pointer (some ⟨g, off + p * 3, none⟩)) [5, 6, 13, 14, 15, 16, 17] rfl rfl (by kernel_rfl) (by kernel_rfl) (by kernel_rfl) (by kernel_rfl) (fun _ _ _ h => h) hS (Or.inl ⟨rfl, fun w1 hw1 => by obtain ⟨q0, q1, q2⟩ := hSx _ hw1; go_simp <;> try (rw [wrap_nat (by omega)])⟩) ?_
      simp only [Act.put, List.setIfInBounds_toArray, List.set_cons_zero, List.set_cons_succ]
      refine wpAnyK_takeTo 5 (some 95) (.pointer (some ⟨g, off + p * 3 + 2, none⟩)) [6, 13, 14, 15, 16, 17] rfl rfl (by kernel_rfl) (by kernel_rfl) (by kernel_rfl) (by kernel_rfl) (fun _ _ _ h => h) hS (Or.inl ⟨rfl, fun w1 hw1 => by obtain ⟨q0, q1, q2⟩ := hSx _ hw1; go_simp <;> try (rw [wrap_nat (by omega)])⟩) ?_
      simp only [Act.put, List.setIfInBounds_toArray, List.set_cons_zero, List.set_cons_succ]
      refine wpAnyK_takeTo 6 (some 96) (.string cs) [13, 14, 15, 16, 17] rfl rfl (by kernel_rfl) (by kernel_rfl) (by kernel_rfl) (by kernel_rfl) (fun _ _ _ h => h) hS (Or.inl ⟨rfl, fun w1 hw1 => by obtain ⟨q0, q1, q2⟩ := hSx _ hw1; go_simp <;> try (rw [wrap_nat (by omega)])⟩) ?_
      simp only [Act.put, List.setIfInBounds_toArray, List.set_cons_zero, List.set_cons_succ]
      refine wpAnyK_takeTo 7 (some 97) (.slice (some ⟨g, off, none⟩) n c) [10, 11, 12, 13, 14, 15, 16, 17] rfl rfl (by kernel_rfl) (by kernel_rfl) (by kernel_rfl) (by kernel_rfl) (fun _ _ _ h => h) hS (Or.inl ⟨rfl, fun w1 hw1 => by obtain ⟨q0, q1, q2⟩ := hSx _ hw1; go_simp <;> try (rw [wrap_nat (by omega)])⟩) ?_
      simp only [Act.put, List.setIfInBounds_toArray, List.set_cons_zero, List.set_cons_succ]
      refine wpAnyK_takeTo 8 (some 98) (.int .i64 (p : Int)) [9, 10, 11, 12, 13, 14, 15, 16, 17] rfl rfl (by kernel_rfl) (by kernel_rfl) (by kernel_rfl) (by kernel_rfl) (fun _ _ _ h => h) hS (Or.inl ⟨rfl, fun w1 hw1 => by obtain ⟨q0, q1, q2⟩ := hSx _ hw1; go_simp <;> try (rw [wrap_nat (by omega)])⟩) ?_
      simp only [Act.put, List.setIfInBounds_toArray, List.set_cons_zero, List.set_cons_succ]
      refine wpAnyK_takeTo 9 (some 99) (.int .i64 (p1 : Int)) [10, 11, 12, 13, 14, 15, 16, 17] rfl rfl (by kernel_rfl) (by kernel_rfl) (by kernel_rfl) (by kernel_rfl) (fun _ _ _ h => h) hS (Or.inl ⟨rfl, fun w1 hw1 => by obtain ⟨q0, q1, q2⟩ := hSx _ hw1; go_simp <;> try (rw [wrap_nat (by omega)])⟩) ?_
      simp only [Act.put, List.setIfInBounds_toArray, List.set_cons_zero, List.set_cons_succ]
      refine wpAnyK_takeTo 10 (some 100) (.pointer (some ⟨g, off + p1 * 3, none⟩)) [11, 12, 13, 14, 15, 16, 17] rfl rfl (by kernel_rfl) (by kernel_rfl) (by kernel_rfl) (by kernel_rfl) (fun _ _ _ h => h) hS (Or.inl ⟨rfl, fun w1 hw1 => by obtain ⟨q0, q1, q2⟩ := hSx _ hw1; go_simp <;> try (rw [wrap_nat (by omega)])⟩) ?_
      simp only [Act.put, List.setIfInBounds_toArray, List.set_cons_zero, List.set_cons_succ]
      refine wpAnyK_takeTo 11 (some 101) (.pointer (some ⟨g, off + p1 * 3 + 1, none⟩)) [12, 13, 14, 15, 16, 17] rfl rfl (by kernel_rfl) (by kernel_rfl) (by kernel_rfl) (by kernel_rfl) (fun _ _ _ h => h) hS (Or.inl ⟨rfl, fun w1 hw1 => by obtain ⟨q0, q1, q2⟩ := hSx _ hw1; go_simp <;> try (rw [wrap_nat (by omega)])⟩) ?_
      simp only [Act.put, List.setIfInBounds_toArray, List.set_cons_zero, List.set_cons_succ]
      refine wpAnyK_takeTo 12 (some 102) (.int .i64 ck) [13, 14, 15, 16, 17] rfl rfl (by kernel_rfl) (by kernel_rfl) (by kernel_rfl) (by kernel_rfl) (fun _ _ _ h => h) hS (Or.inl ⟨rfl, fun w1 hw1 => by obtain ⟨q0, q1, q2⟩ := hSx _ hw1; go_simp <;> try (rw [wrap_nat (by omega)])⟩) ?_
      simp only [Act.put, List.setIfInBounds_toArray, List.set_cons_zero, List.set_cons_succ]
      refine wpAnyK_takeTo 13 (some 103) (.agg #[.string cs, .int .i64 ck]) [14, 15, 16, 17] rfl rfl (by kernel_rfl) (by kernel_rfl) (by kernel_rfl) (by kernel_rfl) (fun _ _ _ h => h) hS (Or.inl ⟨rfl, fun w1 hw1 => by obtain ⟨q0, q1, q2⟩ := hSx _ hw1; go_simp <;> try (rw [wrap_nat (by omega)])⟩) ?_
      simp only [Act.put, List.setIfInBounds_toArray, List.set_cons_zero, List.set_cons_succ]
      clear hS hSx
      have hcl : ((colsR R cnt).take j).length = j := by
        rw [List.length_take, Nat.min_eq_left]
        have : j < (colsR R cnt).length := (List.getElem?_eq_some_iff.1 HCS.out).1
        omega
      obtain ⟨a3, c3, V3, hap, hrow3, f3, fr3⟩ := push_col hcl (ownsRow_fr HRW.out F0 (fun _ _ h => h)) ⟨cs, ck⟩ (by omega)
      dsimp only at hap
      have hBU : Bt < U2.heap.size := (Array.getElem?_eq_some_iff.1 HBT.out).1
      have hvB : ∀ k, (Value.slice a2 j c2).ownBlock = some k → k ≠ Bt := fun k hk => by have := HFS.out k hk; omega
      have hbx3 := (HBX.out.fr F0 (fun h => h)).fr f3 (fun h => hvB Bt h rfl)
      obtain ⟨j1, hj1⟩ : ∃ j1, j1 = j + 1 := ⟨_, rfl⟩
      rw [← hj1] at hap hrow3 fr3
      obtain ⟨V4, hV4⟩ : ∃ V4, V4 = V3.setCell ⟨Bt, 2, none⟩ (.slice a3 j1 c3) := ⟨_, rfl⟩
      have hbx4 : BoxD V4 Bt ⟨i0, s1, a3, j1, c3, [], none, 0, 0, [], b2⟩ := by rw [hV4]; exact heap_setCell_here _ Bt 2 _ _ _ _ hbx3
      have f4 : Fr V3 V4 (fun k => k = Bt) := by rw [hV4]; exact Fr.setCell _ _ _
      have k2 := (hbx3.cells).2.2.1
      have z2 := hbx3.frozen 2
      have hnew : ∀ k, (Value.slice a3 j1 c3).ownBlock = some k → U2.heap.size ≤ k := fr3.le (Nat.le_trans HFY.out.size F0.size) HFS.out
      have HE4 : Hid (ColK U2 Bt ⟨i0, s1, none, 0, 0, [], none, 0, 0, [], b2⟩ (colsR R cnt) j1 V4) := hide ⟨a3, c3, hbx4, by
          rw [hj1, List.take_add_one, HCS.out]
          rw [hj1] at hrow3 hnew
          exact ownsRow_fr hrow3 f4 (fun k hk h => by have := hnew k hk; omega), hnew, (((HFY.out.trans F0).trans f3).trans f4).mono (fun k hk h => by
          rcases h with ((h | h) | h) | h
          · exact h
          · exact h.elim
          · have := HFS.out k h; omega
          · exact h)⟩
      have HJ1 := hide hj1
      have HV4 := hide hV4
      clear hcl hBU hvB hbx3 hbx4 f3 f4 fr3 hrow3 hnew hj1 hV4
      refine wpAnyK_one (i := 14) (by kernel_rfl) rfl rfl ?_
      go_simp
      refine ⟨Fr.alloc _ _ _, ?_⟩
      refine wpAnyK_one (i := 15) (by kernel_rfl) rfl rfl ?_
      refine wp_append_to (.tmp 91) (.tmp 104) 27 rfl (some 105) rfl 27 rfl (.slice a2 j c2) (.slice (some ⟨V0.heap.size, 0, none⟩) 1 1) rfl rfl _ _ hap ⟨fun h => by simp at h, ?_⟩
      simp only [Act.put, List.setIfInBounds_toArray, List.set_cons_zero, List.set_cons_succ]
      clear hap
      refine wpAnyK_one (i := 16) (by kernel_rfl) rfl rfl ?_
      go_simp
      refine wpAnyK_one (i := 17) (by kernel_rfl) rfl rfl ?_
      go_simp
      rw [← HV4.out]
      refine wpAnyK_done (by kernel_rfl) ?_ _
      clear k2 z2 HV4
      go_wp2
      go_roundw
      case rel => exact ⟨j + 1, by omega, by go_num, by congr 1; have := HP.out; omega, by rw [← HJ1.out]; exact HE4.out⟩
      case measure => simp [intOf]; omega
    · obtain rfl : j = cnt := by omega
      have hcj : ¬ ((j : Int) < (j : Int)) := by omega
      have hcjb : decide ((j : Int) < (j : Int)) = false := by simp
      obtain ⟨nk, hnk⟩ : ∃ nk, nk = n - p := ⟨_, rfl⟩
      have HNKE := hide hnk
      have hpn : p ≤ n := by omega
      clear hp hnk
      go_wp2_with fail
      go_loopw [5] (fun va wr => ∃ q : Nat, q ≤ nk ∧ va = .int .i64 ((p + q : Nat) : Int) ∧ KeyK Y Bt ⟨i0, s1, a2, j, c2, colsR R j, none, 0, 0, [], b2⟩ (keysR R j) q wr) (fun va _ => n - (intOf va).toNat)
      case atStart => exact ⟨0, Nat.zero_le _, rfl, none, 0, HBX.out, World.ownsRow_nil _ 0 9 1, fun k hk => (by cases hk), Fr.refl _ _⟩
      case round =>
        rename World => Z
        obtain ⟨q, hq, rfl, a5, c5, hbx, hrw, hfs, hfz⟩ := hrel
        have HBX2 := hide hbx
        have HRW2 := hide hrw
        have HFS2 := hide hfs
        have HFZ := hide hfz
        obtain ⟨ip, hip⟩ : ∃ ip, ip = p + q := ⟨_, rfl⟩
        rw [← hip]
        have HIP := hide hip
        have hwz : Fr w Z (fun _ => False) := (HFW.out.trans hfz).mono (fun k hk h => by rcases h with h | h; exact h; have := HZT.out; omega)
        have HFW2 := hide hwz
        have HBZ2 := hide (HBZ'.out.fr hfz (fun h => by have := HZT.out; omega))
        clear hbx hrw hfs hfz hwz
        rcases Nat.lt_or_ge q nk with hlt | hge
        · have hin : ip < n := by have := HNKE.out; omega
          have hini : (ip : Int) < (n : Int) := by omega
          have hinb : decide ((ip : Int) < (n : Int)) = true := by simp; omega
          obtain ⟨xs, hxs⟩ : ∃ xs, xs = (at_ R ip).text := ⟨_, rfl⟩
          have HXS := hide hxs
          have HKX : Hid ((keysR R j)[q]? = some xs) := hide (by
            unfold keysR
            rw [List.getElem?_map, List.getElem?_drop, ← HP.out, ← hip, at_eq (by rw [HN.out]; exact hin), hxs]; rfl)
          clear hxs hip
          go_wp2_with fail
          have hSx : ∀ V, Fr Z.drew V (fun _ => False) → (V.cell? ⟨Bt, 3, none⟩ = some (.slice a5 q c5) ∧ V.cell? ⟨g, off + ip * 3 + 2, none⟩ = some (.string xs)) := fun V hV => by
            have hd := (Fr.drew Z (fun _ => False)).two hV
            refine ⟨((HBX2.out.fr hd (fun h => h)).cells).2.2.2.1, ?_⟩
            rw [HXS.out]; exact (HCE.out V (HFW2.out.two hd) ip (by omega)).2
          refine wp_region_K (fun z => decide (z < 8)) (fun V : World => Fr Z.drew V (fun _ => False)) (by kernel_rfl) ?_
          obtain ⟨V0, hV0⟩ : ∃ V0, V0 = Z.drew := ⟨_, rfl⟩
          have F0 : Fr Z V0 (fun _ => False) := by rw [hV0]; exact Fr.drew Z _
          rw [← hV0] at hSx ⊢
          have hS : (fun V : World => Fr V0 V (fun _ => False)) V0 := Fr.refl _ _
          clear hV0 x3
          refine wpAnyK_takeTo 0 (some 113) (.pointer (some ⟨Bt, 3, none⟩)) [1, 8, 9, 10] rfl rfl (by kernel_rfl) (by kernel_rfl) (by kernel_rfl) (by kernel_rfl) (fun _ _ _ h => h) hS (Or.inl ⟨rfl, fun w1 hw1 => by obtain ⟨q0, q1⟩ := hSx _ hw1; go_simp⟩) ?_
          simp only [Act.put, List.setIfInBounds_toArray, List.set_cons_zero, List.set_cons_succ]
          refine wpAnyK_takeTo 1 (some 114) (.slice a5 q c5) [8, 9, 10] rfl rfl (by kernel_rfl) (by kernel_rfl) (by kernel_rfl) (by kernel_rfl) (fun _ _ _ h => h) hS (Or.inl ⟨rfl, fun w1 hw1 => by obtain ⟨q0, q1⟩ := hSx _ hw1; go_simp⟩) ?_
          simp only [Act.put, List.setIfInBounds_toArray, List.set_cons_zero, List.set_cons_succ]
          refine wpAnyK_takeTo 2 (some 115) (.slice (some ⟨g, off, none⟩) n c) [4, 5, 6, 7, 8, 9, 10] rfl rfl (by kernel_rfl) (by kernel_rfl) (by kernel_rfl) (by kernel_rfl) (fun _ _ _ h => h) hS (Or.inl ⟨rfl, fun w1 hw1 => by obtain ⟨q0, q1⟩ := hSx _ hw1; go_simp⟩) ?_
          simp only [Act.put, List.setIfInBounds_toArray, List.set_cons_zero, List.set_cons_succ]
          refine wpAnyK_takeTo 3 (some 116) (.int .i64 (ip : Int)) [4, 5, 6, 7, 8, 9, 10] rfl rfl (by kernel_rfl) (by kernel_rfl) (by kernel_rfl) (by kernel_rfl) (fun _ _ _ h => h) hS (Or.inl ⟨rfl, fun w1 hw1 => by obtain ⟨q0, q1⟩ := hSx _ hw1; go_simp⟩) ?_
          simp only [Act.put, List.setIfInBounds_toArray, List.set_cons_zero, List.set_cons_succ]
          refine wpAnyK_takeTo 4 (some 117) (.pointer (some ⟨g, off + ip * 3, none⟩)) [5, 6, 7, 8, 9, 10] rfl rfl (by kernel_rfl) (by kernel_rfl) (by kernel_rfl) (by kernel_rfl) (fun _ _ _ h => h) hS (Or.inl ⟨rfl, fun w1 hw1 => by obtain ⟨q0, q1⟩ := hSx _ hw1; go_simp⟩) ?_
          simp only [Act.put, List.setIfInBounds_toArray, List.set_cons_zero, List.set_cons_succ]
          refine wpAnyK_takeTo 5 (some 118) (.pointer (some ⟨g, off + ip * 3 + 2, none⟩)) [6, 7, 8, 9, 10] rfl rfl (by kernel_rfl) (by kernel_rfl) (by kernel_rfl) (by kernel_rfl) (fun _ _ _ h => h) hS (Or.inl ⟨rfl, fun w1 hw1 => by obtain ⟨q0, q1⟩ := hSx _ hw1; go_simp⟩) ?_
          simp only [Act.put, List.setIfInBounds_toArray, List.set_cons_zero, List.set_cons_succ]
          refine wpAnyK_takeTo 6 (some 119) (.string xs) [7, 8, 9, 10] rfl rfl (by kernel_rfl) (by kernel_rfl) (by kernel_rfl) (by kernel_rfl) (fun _ _ _ h => h) hS (Or.inl ⟨rfl, fun w1 hw1 => by obtain ⟨q0, q1⟩ := hSx _ hw1; go_simp⟩) ?_
          simp only [Act.put, List.setIfInBounds_toArray, List.set_cons_zero, List.set_cons_succ]
          clear hS hSx
          have hkl : ((keysR R j).take q).length = q := by
            rw [List.length_take, Nat.min_eq_left]
            have : q < (keysR R j).length := (List.getElem?_eq_some_iff.1 HKX.out).1
            omega
          obtain ⟨a6, c6, V3, hap, hrow3, f3, fr3⟩ := push_str hkl (ownsRow_fr HRW2.out F0 (fun _ _ h => h)) xs (by have := HP.out; have := HNKE.out; omega)
          have hBU : Bt < Y.heap.size := (Array.getElem?_eq_some_iff.1 HBX.out).1
          have hvB : ∀ k, (Value.slice a5 q c5).ownBlock = some k → k ≠ Bt := fun k hk => by have := HFS2.out k hk; omega
          have hbx3 := (HBX2.out.fr F0 (fun h => h)).fr f3 (fun h => hvB Bt h rfl)
          obtain ⟨q1, hq1⟩ : ∃ q1, q1 = q + 1 := ⟨_, rfl⟩
          rw [← hq1] at hap hrow3 fr3
          obtain ⟨V4, hV4⟩ : ∃ V4, V4 = V3.setCell ⟨Bt, 3, none⟩ (.slice a6 q1 c6) := ⟨_, rfl⟩
          have hbx4 : BoxD V4 Bt ⟨i0, s1, a2, j, c2, colsR R j, a6, q1, c6, [], b2⟩ := by rw [hV4]; exact heap_setCell_here _ Bt 3 _ _ _ _ hbx3
          have f4 : Fr V3 V4 (fun k => k = Bt) := by rw [hV4]; exact Fr.setCell _ _ _
          have k2 := (hbx3.cells).2.2.2.1
          have z2 := hbx3.frozen 3
          have hnew : ∀ k, (Value.slice a6 q1 c6).ownBlock = some k → Y.heap.size ≤ k := fr3.le (Nat.le_trans HFZ.out.size F0.size) HFS2.out
          have HE4 : Hid (KeyK Y Bt ⟨i0, s1, a2, j, c2, colsR R j, none, 0, 0, [], b2⟩ (keysR R j) q1 V4) := hide ⟨a6, c6, hbx4, by
              rw [hq1, List.take_add_one, HKX.out]
              rw [hq1] at hrow3 hnew
              exact ownsRow_fr hrow3 f4 (fun k hk h => by have := hnew k hk; omega), hnew, (((HFZ.out.trans F0).trans f3).trans f4).mono (fun k hk h => by
              rcases h with ((h | h) | h) | h
              · exact h
              · exact h.elim
              · have := HFS2.out k h; omega
              · exact h)⟩
          have HQ1 := hide hq1
          have HV4 := hide hV4
          clear hkl hBU hvB hbx3 hbx4 f3 f4 fr3 hrow3 hnew hq1 hV4
          refine wpAnyK_one (i := 7) (by kernel_rfl) rfl rfl ?_
          go_simp
          refine ⟨Fr.alloc _ _ _, ?_⟩
          refine wpAnyK_one (i := 8) (by kernel_rfl) rfl rfl ?_
          refine wp_append_to (.tmp 114) (.tmp 120) 28 rfl (some 121) rfl 28 rfl (.slice a5 q c5) (.slice (some ⟨V0.heap.size, 0, none⟩) 1 1) rfl rfl _ _ hap ⟨fun h => by simp at h, ?_⟩
          simp only [Act.put, List.setIfInBounds_toArray, List.set_cons_zero, List.set_cons_succ]
          clear hap
          refine wpAnyK_one (i := 9) (by kernel_rfl) rfl rfl ?_
          go_simp
          refine wpAnyK_one (i := 10) (by kernel_rfl) rfl rfl ?_
          go_simp
          rw [← HV4.out]
          refine wpAnyK_done (by kernel_rfl) ?_ _
          clear k2 z2 HV4
          go_wp2
          go_roundw
          case rel => exact ⟨q + 1, by omega, by congr 1; have := HIP.out; omega, by rw [← HQ1.out]; exact HE4.out⟩
          case measure => simp [intOf]; omega
        · obtain rfl : q = nk := by omega
          have hni : ¬ ((ip : Int) < (n : Int)) := by have := HNKE.out; omega
          have hnib : decide ((ip : Int) < (n : Int)) = false := by have := HNKE.out; simp; omega
          have hkl : (keysR R j).length = q := by
            unfold keysR
            rw [List.length_map, List.length_drop, HN.out, ← HP.out]; exact HNKE.out.symm
          have hcl : (colsR R j).length = j := by unfold colsR; rw [List.length_map, List.length_range]
          have hrw1 := HRW.out
          rw [List.take_of_length_le (by omega)] at hrw1
          have hrw2 := HRW2.out
          rw [List.take_of_length_le (by omega)] at hrw2
          have hU : w.heap.size ≤ U2.heap.size := HFT.out.size
          have hBU : Bt < U2.heap.size := (Array.getElem?_eq_some_iff.1 HBT.out).1
          have hYs := HFY.out.size
          have hzt := HZT.out
          have rc1 := own_cols (P := fun k => w.heap.size < k) (ownsRow_fr hrw1 HFZ.out (fun k hk h => by have := HFS.out k hk; omega)) (fun k hk => by have := HFS.out k hk; omega)
          have rk1 := own_strs (P := fun k => w.heap.size < k) hrw2 (fun k hk => by have := HFS2.out k hk; omega)
          obtain ⟨tt, htt⟩ : ∃ tt : Tb, tt = ⟨i0, s1, a2, j, c2, colsR R j, a5, q, c5, keysR R j, b2⟩ := ⟨_, rfl⟩
          have hti : TabIn (fun k => w.heap.size < k) Z ⟨i0, s1, a2, j, c2, colsR R j, a5, q, c5, keysR R j, b2⟩ := ⟨rc1.1, hcl, by dsimp only; omega, rc1.2, rk1.1, hkl, by have := HP.out; have := HNKE.out; dsimp only; omega, rk1.2, H64.out⟩
          have HTI := hide hti
          have hlen : (rowP tt).length = n := by rw [htt, rowP_length]; dsimp only; rw [hcl, hkl]; have := HP.out; have := HNKE.out; omega
          have HGK : Hid (∀ s', GoodR R s' → tt.key = s'.key) := hide (fun s' hg => by
            have e1 := good_count hg
            rw [HC3.out] at e1
            obtain rfl : j = s'.C.length := by omega
            refine key_row s' tt ?_
            rw [hg.1, htt, HI0.out, HSS.out, HI2.out]; unfold Tb.key; rw [HB2E.out])
          have HRO := hide (row_ref _ hti)
          unfold Tb.agg at HRO
          dsimp only at HRO
          rw [← htt] at HRO
          have HTT := hide htt
          have HLN := hide hlen
          obtain ⟨x0, x1, x2, x3', x4⟩ := HBX2.out.cells
          dsimp only at x0 x1 x2 x3' x4
          clear hkl hcl hrw1 hrw2 hU hYs hzt rc1 rk1 hti hlen htt hip hge hBU
          go_wp2_with fail
          refine HRO.out.mono ?_
          rintro e w5 ⟨v, rfl, hg⟩
          obtain ⟨av, cv, rfl, hvv, _, _⟩ := hg.vals
          have f5 := hg.2.1
          rw [HLN.out]
          replace HBX2 := hide (HBX2.out.fr f5 (fun h => h))
          replace HTI := hide (HTI.out.fr f5 (fun _ _ h => h))
          replace HBZ2 := hide (HBZ2.out.fr f5 (fun h => h))
          replace HFW2 := hide (HFW2.out.two f5)
          have HVV := hide hvv
          clear HRO f5 hg hvv x0 x1 x2 x3' x4
          go_wp2_with fail
          go_loopw [8] (fun vi wr => ∃ k : Nat, k ≤ n ∧ vi = .int .i64 (k : Int) ∧ (∀ m, m < k → (rowP tt)[m]? = R[m]?) ∧ Fr w5 wr (fun _ => False)) (fun vi _ => n - (intOf vi).toNat)
          case atStart => exact ⟨0, Nat.zero_le _, rfl, fun m hm => by omega, Fr.refl _ _⟩
          case round =>
            rename World => W
            obtain ⟨k, hk, rfl, hall, hf⟩ := hrel
            have HAL := hide hall
            have HF := hide hf
            have HFW := hide (HFW2.out.two hf)
            have HBZ := hide (HBZ2.out.fr hf (fun h => h))
            clear hall hf
            rcases Nat.lt_or_ge k n with hlt | hge
            · have hlti : (k : Int) < (n : Int) := by omega
              have hltb : decide ((k : Int) < (n : Int)) = true := by simp; omega
              obtain ⟨x, hx⟩ : ∃ x, (rowP tt)[k]? = some x := ⟨_, List.getElem?_eq_getElem (by rw [HLN.out]; exact hlt)⟩
              obtain ⟨y, hy⟩ : ∃ y, R[k]? = some y := ⟨_, List.getElem?_eq_getElem (by rw [HN.out]; exact hlt)⟩
              obtain ⟨gv, ov, ha, _, e0, e1, e2⟩ := (HVV.out.fr (HF.out.two (Fr.drew W _)) (fun _ _ h => h)) k x hx
              obtain ⟨g2, off2, ha2, _, d0, d1, d2⟩ := (HRV.out.fr (HFW.out.two (Fr.drew W _)) (fun _ _ h => h)) k y hy
              cases ha2
              rw [ha]
              replace HBZ := hide (HBZ.out.fr (Fr.drew W (fun _ => False)) (fun h => h))
              replace HFW := hide (HFW.out.two (Fr.drew W _))
              have HD := hide (HF.out.two (Fr.drew W _))
              obtain ⟨xk, xi, xt⟩ := x
              obtain ⟨yk, yi, yt⟩ := y
              have HX := hide hx
              have HY := hide hy
              dsimp only at e0 e1 e2 d0 d1 d2
              clear hx hy ha HF x3
              have HNX : Hid ((⟨xk, xi, xt⟩ : Vl) ≠ ⟨yk, yi, yt⟩ → ∀ s', ¬ GoodR R s') := hide (fun hne s' hg => hne (by
                have h1 := rowP_key (HGK.out s' hg)
                rw [hg.1] at h1
                have h2 := HX.out
                rw [h1, HY.out] at h2
                exact (Option.some.inj h2).symm))
              by_cases k1 : xk = yk
              · subst k1
                by_cases k2 : xi = yi
                · subst k2
                  by_cases k3 : xt = yt
                  · subst k3
                    go_wp2_with fail
                    refine wp_region_K (fun _ => true) (fun U : World => U = W.drew) (by kernel_rfl) ?_
                    have hS : (fun U : World => U = W.drew) W.drew := rfl
                    refine wpAnyK_takeTo 0 (some 133) (.slice (some ⟨gv, ov, none⟩) n cv) [2, 3, 8] rfl rfl (by kernel_rfl) (by kernel_rfl) (by kernel_rfl) (by kernel_rfl) (fun _ _ _ h => h) hS (Or.inl ⟨rfl, fun w1 hw1 => by have hw1 : w1 = W.drew := hw1; subst hw1; go_simp⟩) ?_
                    simp only [Act.put, List.setIfInBounds_toArray, List.set_cons_zero, List.set_cons_succ]
                    refine wpAnyK_takeTo 1 (some 134) (.int .i64 (k : Int)) [2, 3, 8] rfl rfl (by kernel_rfl) (by kernel_rfl) (by kernel_rfl) (by kernel_rfl) (fun _ _ _ h => h) hS (Or.inl ⟨rfl, fun w1 hw1 => by have hw1 : w1 = W.drew := hw1; subst hw1; go_simp⟩) ?_
                    simp only [Act.put, List.setIfInBounds_toArray, List.set_cons_zero, List.set_cons_succ]
                    refine wpAnyK_takeTo 2 (some 135) (.pointer (some ⟨gv, ov + k * 3, none⟩)) [3, 8] rfl rfl (by kernel_rfl) (by kernel_rfl) (by kernel_rfl) (by kernel_rfl) (fun _ _ _ h => h) hS (Or.inl ⟨rfl, fun w1 hw1 => by have hw1 : w1 = W.drew := hw1; subst hw1; go_simp⟩) ?_
                    simp only [Act.put, List.setIfInBounds_toArray, List.set_cons_zero, List.set_cons_succ]
                    refine wpAnyK_takeTo 3 (some 136) (.agg #[.int .i64 xk, .int .i64 xi, .string xt]) [8] rfl rfl (by kernel_rfl) (by kernel_rfl) (by kernel_rfl) (by kernel_rfl) (fun _ _ _ h => h) hS (Or.inl ⟨rfl, fun w1 hw1 => by have hw1 : w1 = W.drew := hw1; subst hw1; go_simp⟩) ?_
                    simp only [Act.put, List.setIfInBounds_toArray, List.set_cons_zero, List.set_cons_succ]
                    refine wpAnyK_takeTo 4 (some 137) (.slice (some ⟨g, off, none⟩) n c) [6, 7, 8] rfl rfl (by kernel_rfl) (by kernel_rfl) (by kernel_rfl) (by kernel_rfl) (fun _ _ _ h => h) hS (Or.inl ⟨rfl, fun w1 hw1 => by have hw1 : w1 = W.drew := hw1; subst hw1; go_simp⟩) ?_
                    simp only [Act.put, List.setIfInBounds_toArray, List.set_cons_zero, List.set_cons_succ]
                    refine wpAnyK_takeTo 5 (some 138) (.int .i64 (k : Int)) [6, 7, 8] rfl rfl (by kernel_rfl) (by kernel_rfl) (by kernel_rfl) (by kernel_rfl) (fun _ _ _ h => h) hS (Or.inl ⟨rfl, fun w1 hw1 => by have hw1 : w1 = W.drew := hw1; subst hw1; go_simp⟩) ?_
                    simp only [Act.put, List.setIfInBounds_toArray, List.set_cons_zero, List.set_cons_succ]
                    refine wpAnyK_takeTo 6 (some 139) (.pointer (some ⟨g, off + k * 3, none⟩)) [7, 8] rfl rfl (by kernel_rfl) (by kernel_rfl) (by kernel_rfl) (by kernel_rfl) (fun _ _ _ h => h) hS (Or.inl ⟨rfl, fun w1 hw1 => by have hw1 : w1 = W.drew := hw1; subst hw1; go_simp⟩) ?_
                    simp only [Act.put, List.setIfInBounds_toArray, List.set_cons_zero, List.set_cons_succ]
                    refine wpAnyK_takeTo 7 (some 140) (.agg #[.int .i64 xk, .int .i64 xi, .string xt]) [8] rfl rfl (by kernel_rfl) (by kernel_rfl) (by kernel_rfl) (by kernel_rfl) (fun _ _ _ h => h) hS (Or.inl ⟨rfl, fun w1 hw1 => by have hw1 : w1 = W.drew := hw1; subst hw1; go_simp⟩) ?_
                    simp only [Act.put, List.setIfInBounds_toArray, List.set_cons_zero, List.set_cons_succ]
                    refine wpAnyK_takeTo 8 (some 141) (.bool false) [] rfl rfl (by kernel_rfl) (by kernel_rfl) (by kernel_rfl) (by kernel_rfl) (fun _ _ _ h => h) hS (Or.inl ⟨rfl, fun w1 hw1 => by have hw1 : w1 = W.drew := hw1; subst hw1; go_simp⟩) ?_
                    simp only [Act.put, List.setIfInBounds_toArray, List.set_cons_zero, List.set_cons_succ]
                    clear hS e0 e1 e2 d0 d1 d2
                    refine wpAnyK_done (by kernel_rfl) ?_ _
                    go_wp2
                    go_roundw
                    case rel => exact ⟨k + 1, by omega, by go_num, fun m hm => by
                      rcases Nat.lt_or_ge m k with h | h
                      · exact HAL.out m h
                      · obtain rfl : m = k := by omega
                        rw [HX.out, HY.out], HD.out⟩
                    case measure => simp [intOf]; omega
                  · have HNO : Hid (∀ s', ¬ GoodR R s') := hide (HNX.out (fun e => k3 (by injection e)))
                    have k3b : (xt.toList == yt.toList) = false := (Go.Lib.bytes_beq_false_iff xt yt).2 k3
                    have k3l : ¬ (xt.toList = yt.toList) := by simpa using k3b
                    clear k3
                    go_wp2_with fail
                    refine wp_region_K (fun _ => true) (fun U : World => U = W.drew) (by kernel_rfl) ?_
                    have hS : (fun U : World => U = W.drew) W.drew := rfl
                    refine wpAnyK_takeTo 0 (some 133) (.slice (some ⟨gv, ov, none⟩) n cv) [2, 3, 8] rfl rfl (by kernel_rfl) (by kernel_rfl) (by kernel_rfl) (by kernel_rfl) (fun _ _ _ h => h) hS (Or.inl ⟨rfl, fun w1 hw1 => by have hw1 : w1 = W.drew := hw1; subst hw1; go_simp⟩) ?_
                    simp only [Act.put, List.setIfInBounds_toArray, List.set_cons_zero, List.set_cons_succ]
                    refine wpAnyK_takeTo 1 (some 134) (.int .i64 (k : Int)) [2, 3, 8] rfl rfl (by kernel_rfl) (by kernel_rfl) (by kernel_rfl) (by kernel_rfl) (fun _ _ _ h => h) hS (Or.inl ⟨rfl, fun w1 hw1 => by have hw1 : w1 = W.drew := hw1; subst hw1; go_simp⟩) ?_
                    simp only [Act.put, List.setIfInBounds_toArray, List.set_cons_zero, List.set_cons_succ]
                    refine wpAnyK_takeTo 2 (some 135) (.pointer (some ⟨gv, ov + k * 3, none⟩)) [3, 8] rfl rfl (by kernel_rfl) (by kernel_rfl) (by kernel_rfl) (by kernel_rfl) (fun _ _ _ h => h) hS (Or.inl ⟨rfl, fun w1 hw1 => by have hw1 : w1 = W.drew := hw1; subst hw1; go_simp⟩) ?_
                    simp only [Act.put, List.setIfInBounds_toArray, List.set_cons_zero, List.set_cons_succ]
                    refine wpAnyK_takeTo 3 (some 136) (.agg #[.int .i64 xk, .int .i64 xi, .string xt]) [8] rfl rfl (by kernel_rfl) (by kernel_rfl) (by kernel_rfl) (by kernel_rfl) (fun _ _ _ h => h) hS (Or.inl ⟨rfl, fun w1 hw1 => by have hw1 : w1 = W.drew := hw1; subst hw1; go_simp⟩) ?_
                    simp only [Act.put, List.setIfInBounds_toArray, List.set_cons_zero, List.set_cons_succ]
                    refine wpAnyK_takeTo 4 (some 137) (.slice (some ⟨g, off, none⟩) n c) [6, 7, 8] rfl rfl (by kernel_rfl) (by kernel_rfl) (by kernel_rfl) (by kernel_rfl) (fun _ _ _ h => h) hS (Or.inl ⟨rfl, fun w1 hw1 => by have hw1 : w1 = W.drew := hw1; subst hw1; go_simp⟩) ?_
                    simp only [Act.put, List.setIfInBounds_toArray, List.set_cons_zero, List.set_cons_succ]
                    refine wpAnyK_takeTo 5 (some 138) (.int .i64 (k : Int)) [6, 7, 8] rfl rfl (by kernel_rfl) (by kernel_rfl) (by kernel_rfl) (by kernel_rfl) (fun _ _ _ h => h) hS (Or.inl ⟨rfl, fun w1 hw1 => by have hw1 : w1 = W.drew := hw1; subst hw1; go_simp⟩) ?_
                    simp only [Act.put, List.setIfInBounds_toArray, List.set_cons_zero, List.set_cons_succ]
                    refine wpAnyK_takeTo 6 (some 139) (.pointer (some ⟨g, off + k * 3, none⟩)) [7, 8] rfl rfl (by kernel_rfl) (by kernel_rfl) (by kernel_rfl) (by kernel_rfl) (fun _ _ _ h => h) hS (Or.inl ⟨rfl, fun w1 hw1 => by have hw1 : w1 = W.drew := hw1; subst hw1; go_simp⟩) ?_
                    simp only [Act.put, List.setIfInBounds_toArray, List.set_cons_zero, List.set_cons_succ]
                    refine wpAnyK_takeTo 7 (some 140) (.agg #[.int .i64 xk, .int .i64 xi, .string yt]) [8] rfl rfl (by kernel_rfl) (by kernel_rfl) (by kernel_rfl) (by kernel_rfl) (fun _ _ _ h => h) hS (Or.inl ⟨rfl, fun w1 hw1 => by have hw1 : w1 = W.drew := hw1; subst hw1; go_simp⟩) ?_
                    simp only [Act.put, List.setIfInBounds_toArray, List.set_cons_zero, List.set_cons_succ]
                    refine wpAnyK_takeTo 8 (some 141) (.bool true) [] rfl rfl (by kernel_rfl) (by kernel_rfl) (by kernel_rfl) (by kernel_rfl) (fun _ _ _ h => h) hS (Or.inl ⟨rfl, fun w1 hw1 => by have hw1 : w1 = W.drew := hw1; subst hw1; go_simp⟩) ?_
                    simp only [Act.put, List.setIfInBounds_toArray, List.set_cons_zero, List.set_cons_succ]
                    clear hS e0 e1 e2 d0 d1 d2
                    refine wpAnyK_done (by kernel_rfl) ?_ _
                    obtain ⟨Wd, hWd⟩ : ∃ Wd, Wd = W.drew := ⟨_, rfl⟩
                    rw [← hWd] at HBZ HFW ⊢
                    clear hWd
                    obtain ⟨w9, hw9⟩ : ∃ w9, w9 = ((((Wd.setCell ⟨w.heap.size, 0, none⟩ (.int .i64 0)).setCell ⟨w.heap.size, 1, none⟩ (.string ⟨#[]⟩)).setCell ⟨w.heap.size, 2, none⟩ (.slice none 0 0)).setCell ⟨w.heap.size, 3, none⟩ (.slice none 0 0)).setCell ⟨w.heap.size, 4, none⟩ (.bool false) := ⟨_, rfl⟩
                    have HB9 := hide (HBZ.out.fill (t' := zeroT) w9 hw9)
                    have F9 := fr_fill (t' := zeroT) w9 hw9
                    have HF9 := hide ((HFW.out.trans F9).mono (Y := fun _ => False) (fun k hk h => by rcases h with h | h; exact h; omega))
                    obtain ⟨z0, z1, z2, z3, z4⟩ := HBZ.out.cells
                    unfold zeroT at z0 z1 z2 z3 z4
                    have q0 := HBZ.out.frozen 0
                    have q1 := HBZ.out.frozen 1
                    have q2 := HBZ.out.frozen 2
                    have q3 := HBZ.out.frozen 3
                    have q4 := HBZ.out.frozen 4
                    have HU := hide hw9
                    clear F9 hw9
                    go_wp2_with (first | (rw [← HU.out]; clear HU))
                    exact bodyPost_ret (results_td2 Try.results25 _ _ w.heap.size HB9.out rfl) rfl ⟨HF9.out, .inl ⟨rfl, HNO.out⟩⟩
                · have HNO : Hid (∀ s', ¬ GoodR R s') := hide (HNX.out (fun e => k2 (by injection e)))
                  have k2b : (xi == yi) = false := by simpa using k2
                  go_wp2_with fail
                  refine wp_region_K (fun _ => true) (fun U : World => U = W.drew) (by kernel_rfl) ?_
                  have hS : (fun U : World => U = W.drew) W.drew := rfl
                  refine wpAnyK_takeTo 0 (some 133) (.slice (some ⟨gv, ov, none⟩) n cv) [2, 3, 8] rfl rfl (by kernel_rfl) (by kernel_rfl) (by kernel_rfl) (by kernel_rfl) (fun _ _ _ h => h) hS (Or.inl ⟨rfl, fun w1 hw1 => by have hw1 : w1 = W.drew := hw1; subst hw1; go_simp⟩) ?_
                  simp only [Act.put, List.setIfInBounds_toArray, List.set_cons_zero, List.set_cons_succ]
                  refine wpAnyK_takeTo 1 (some 134) (.int .i64 (k : Int)) [2, 3, 8] rfl rfl (by kernel_rfl) (by kernel_rfl) (by kernel_rfl) (by kernel_rfl) (fun _ _ _ h => h) hS (Or.inl ⟨rfl, fun w1 hw1 => by have hw1 : w1 = W.drew := hw1; subst hw1; go_simp⟩) ?_
                  simp only [Act.put, List.setIfInBounds_toArray, List.set_cons_zero, List.set_cons_succ]
                  refine wpAnyK_takeTo 2 (some 135) (.pointer (some ⟨gv, ov + k * 3, none⟩)) [3, 8] rfl rfl (by kernel_rfl) (by kernel_rfl) (by kernel_rfl) (by kernel_rfl) (fun _ _ _ h => h) hS (Or.inl ⟨rfl, fun w1 hw1 => by have hw1 : w1 = W.drew := hw1; subst hw1; go_simp⟩) ?_
                  simp only [Act.put, List.setIfInBounds_toArray, List.set_cons_zero, List.set_cons_succ]
                  refine wpAnyK_takeTo 3 (some 136) (.agg #[.int .i64 xk, .int .i64 xi, .string xt]) [8] rfl rfl (by kernel_rfl) (by kernel_rfl) (by kernel_rfl) (by kernel_rfl) (fun _ _ _ h => h) hS (Or.inl ⟨rfl, fun w1 hw1 => by have hw1 : w1 = W.drew := hw1; subst hw1; go_simp⟩) ?_
                  simp only [Act.put, List.setIfInBounds_toArray, List.set_cons_zero, List.set_cons_succ]
                  refine wpAnyK_takeTo 4 (some 137) (.slice (some ⟨g, off, none⟩) n c) [6, 7, 8] rfl rfl (by kernel_rfl) (by kernel_rfl) (by kernel_rfl) (by kernel_rfl) (fun _ _ _ h => h) hS (Or.inl ⟨rfl, fun w1 hw1 => by have hw1 : w1 = W.drew := hw1; subst hw1; go_simp⟩) ?_
                  simp only [Act.put, List.setIfInBounds_toArray, List.set_cons_zero, List.set_cons_succ]
                  refine wpAnyK_takeTo 5 (some 138) (.int .i64 (k : Int)) [6, 7, 8] rfl rfl (by kernel_rfl) (by kernel_rfl) (by kernel_rfl) (by kernel_rfl) (fun _ _ _ h => h) hS (Or.inl ⟨rfl, fun w1 hw1 => by have hw1 : w1 = W.drew := hw1; subst hw1; go_simp⟩) ?_
                  simp only [Act.put, List.setIfInBounds_toArray, List.set_cons_zero, List.set_cons_succ]
                  refine wpAnyK_takeTo 6 (some 139) (.pointer (some ⟨g, off + k * 3, none⟩)) [7, 8] rfl rfl (by kernel_rfl) (by kernel_rfl) (by kernel_rfl) (by kernel_rfl) (fun _ _ _ h => h) hS (Or.inl ⟨rfl, fun w1 hw1 => by have hw1 : w1 = W.drew := hw1; subst hw1; go_simp⟩) ?_
                  simp only [Act.put, List.setIfInBounds_toArray, List.set_cons_zero, List.set_cons_succ]
                  refine wpAnyK_takeTo 7 (some 140) (.agg #[.int .i64 xk, .int .i64 yi, .string yt]) [8] rfl rfl (by kernel_rfl) (by kernel_rfl) (by kernel_rfl) (by kernel_rfl) (fun _ _ _ h => h) hS (Or.inl ⟨rfl, fun w1 hw1 => by have hw1 : w1 = W.drew := hw1; subst hw1; go_simp⟩) ?_
                  simp only [Act.put, List.setIfInBounds_toArray, List.set_cons_zero, List.set_cons_succ]
                  refine wpAnyK_takeTo 8 (some 141) (.bool true) [] rfl rfl (by kernel_rfl) (by kernel_rfl) (by kernel_rfl) (by kernel_rfl) (fun _ _ _ h => h) hS (Or.inl ⟨rfl, fun w1 hw1 => by have hw1 : w1 = W.drew := hw1; subst hw1; go_simp⟩) ?_
                  simp only [Act.put, List.setIfInBounds_toArray, List.set_cons_zero, List.set_cons_succ]
                  clear hS e0 e1 e2 d0 d1 d2
                  refine wpAnyK_done (by kernel_rfl) ?_ _
                  obtain ⟨Wd, hWd⟩ : ∃ Wd, Wd = W.drew := ⟨_, rfl⟩
                  rw [← hWd] at HBZ HFW ⊢
                  clear hWd
                  obtain ⟨w9, hw9⟩ : ∃ w9, w9 = ((((Wd.setCell ⟨w.heap.size, 0, none⟩ (.int .i64 0)).setCell ⟨w.heap.size, 1, none⟩ (.string ⟨#[]⟩)).setCell ⟨w.heap.size, 2, none⟩ (.slice none 0 0)).setCell ⟨w.heap.size, 3, none⟩ (.slice none 0 0)).setCell ⟨w.heap.size, 4, none⟩ (.bool false) := ⟨_, rfl⟩
                  have HB9 := hide (HBZ.out.fill (t' := zeroT) w9 hw9)
                  have F9 := fr_fill (t' := zeroT) w9 hw9
                  have HF9 := hide ((HFW.out.trans F9).mono (Y := fun _ => False) (fun k hk h => by rcases h with h | h; exact h; omega))
                  obtain ⟨z0, z1, z2, z3, z4⟩ := HBZ.out.cells
                  unfold zeroT at z0 z1 z2 z3 z4
                  have q0 := HBZ.out.frozen 0
                  have q1 := HBZ.out.frozen 1
                  have q2 := HBZ.out.frozen 2
                  have q3 := HBZ.out.frozen 3
                  have q4 := HBZ.out.frozen 4
                  have HU := hide hw9
                  clear F9 hw9
                  go_wp2_with (first | (rw [← HU.out]; clear HU))
                  exact bodyPost_ret (results_td2 Try.results25 _ _ w.heap.size HB9.out rfl) rfl ⟨HF9.out, .inl ⟨rfl, HNO.out⟩⟩
              · have HNO : Hid (∀ s', ¬ GoodR R s') := hide (HNX.out (fun e => k1 (by injection e)))
                have k1b : (xk == yk) = false := by simpa using k1
                go_wp2_with fail
                refine wp_region_K (fun _ => true) (fun U : World => U = W.drew) (by kernel_rfl) ?_
                have hS : (fun U : World => U = W.drew) W.drew := rfl
                refine wpAnyK_takeTo 0 (some 133) (.slice (some ⟨gv, ov, none⟩) n cv) [2, 3, 8] rfl rfl (by kernel_rfl) (by kernel_rfl) (by kernel_rfl) (by kernel_rfl) (fun _ _ _ h => h) hS (Or.inl ⟨rfl, fun w1 hw1 => by have hw1 : w1 = W.drew := hw1; subst hw1; go_simp⟩) ?_
                simp only [Act.put, List.setIfInBounds_toArray, List.set_cons_zero, List.set_cons_succ]
                refine wpAnyK_takeTo 1 (some 134) (.int .i64 (k : Int)) [2, 3, 8] rfl rfl (by kernel_rfl) (by kernel_rfl) (by kernel_rfl) (by kernel_rfl) (fun _ _ _ h => h) hS (Or.inl ⟨rfl, fun w1 hw1 => by have hw1 : w1 = W.drew := hw1; subst hw1; go_simp⟩) ?_
                simp only [Act.put, List.setIfInBounds_toArray, List.set_cons_zero, List.set_cons_succ]
                refine wpAnyK_takeTo 2 (some 135) (.pointer (some ⟨gv, ov + k * 3, none⟩)) [3, 8] rfl rfl (by kernel_rfl) (by kernel_rfl) (by kernel_rfl) (by kernel_rfl) (fun _ _ _ h => h) hS (Or.inl ⟨rfl, fun w1 hw1 => by have hw1 : w1 = W.drew := hw1; subst hw1; go_simp⟩) ?_
                simp only [Act.put, List.setIfInBounds_toArray, List.set_cons_zero, List.set_cons_succ]
                refine wpAnyK_takeTo 3 (some 136) (.agg #[.int .i64 xk, .int .i64 xi, .string xt]) [8] rfl rfl (by kernel_rfl) (by kernel_rfl) (by kernel_rfl) (by kernel_rfl) (fun _ _ _ h => h) hS (Or.inl ⟨rfl, fun w1 hw1 => by have hw1 : w1 = W.drew := hw1; subst hw1; go_simp⟩) ?_
                simp only [Act.put, List.setIfInBounds_toArray, List.set_cons_zero, List.set_cons_succ]
                refine wpAnyK_takeTo 4 (some 137) (.slice (some ⟨g, off, none⟩) n c) [6, 7, 8] rfl rfl (by kernel_rfl) (by kernel_rfl) (by kernel_rfl) (by kernel_rfl) (fun _ _ _ h => h) hS (Or.inl ⟨rfl, fun w1 hw1 => by have hw1 : w1 = W.drew := hw1; subst hw1; go_simp⟩) ?_
                simp only [Act.put, List.setIfInBounds_toArray, List.set_cons_zero, List.set_cons_succ]
                refine wpAnyK_takeTo 5 (some 138) (.int .i64 (k : Int)) [6, 7, 8] rfl rfl (by kernel_rfl) (by kernel_rfl) (by kernel_rfl) (by kernel_rfl) (fun _ _ _ h => h) hS (Or.inl ⟨rfl, fun w1 hw1 => by have hw1 : w1 = W.drew := hw1; subst hw1; go_simp⟩) ?_
                simp only [Act.put, List.setIfInBounds_toArray, List.set_cons_zero, List.set_cons_succ]
                refine wpAnyK_takeTo 6 (some 139) (.pointer (some ⟨g, off + k * 3, none⟩)) [7, 8] rfl rfl (by kernel_rfl) (by kernel_rfl) (by kernel_rfl) (by kernel_rfl) (fun _ _ _ h => h) hS (Or.inl ⟨rfl, fun w1 hw1 => by have hw1 : w1 = W.drew := hw1; subst hw1; go_simp⟩) ?_
                simp only [Act.put, List.setIfInBounds_toArray, List.set_cons_zero, List.set_cons_succ]
                refine wpAnyK_takeTo 7 (some 140) (.agg #[.int .i64 yk, .int .i64 yi, .string yt]) [8] rfl rfl (by kernel_rfl) (by kernel_rfl) (by kernel_rfl) (by kernel_rfl) (fun _ _ _ h => h) hS (Or.inl ⟨rfl, fun w1 hw1 => by have hw1 : w1 = W.drew := hw1; subst hw1; go_simp⟩) ?_
                simp only [Act.put, List.setIfInBounds_toArray, List.set_cons_zero, List.set_cons_succ]
                refine wpAnyK_takeTo 8 (some 141) (.bool true) [] rfl rfl (by kernel_rfl) (by kernel_rfl) (by kernel_rfl) (by kernel_rfl) (fun _ _ _ h => h) hS (Or.inl ⟨rfl, fun w1 hw1 => by have hw1 : w1 = W.drew := hw1; subst hw1; go_simp⟩) ?_
                simp only [Act.put, List.setIfInBounds_toArray, List.set_cons_zero, List.set_cons_succ]
                clear hS e0 e1 e2 d0 d1 d2
                refine wpAnyK_done (by kernel_rfl) ?_ _
                obtain ⟨Wd, hWd⟩ : ∃ Wd, Wd = W.drew := ⟨_, rfl⟩
                rw [← hWd] at HBZ HFW ⊢
                clear hWd
                obtain ⟨w9, hw9⟩ : ∃ w9, w9 = ((((Wd.setCell ⟨w.heap.size, 0, none⟩ (.int .i64 0)).setCell ⟨w.heap.size, 1, none⟩ (.string ⟨#[]⟩)).setCell ⟨w.heap.size, 2, none⟩ (.slice none 0 0)).setCell ⟨w.heap.size, 3, none⟩ (.slice none 0 0)).setCell ⟨w.heap.size, 4, none⟩ (.bool false) := ⟨_, rfl⟩
                have HB9 := hide (HBZ.out.fill (t' := zeroT) w9 hw9)
                have F9 := fr_fill (t' := zeroT) w9 hw9
                have HF9 := hide ((HFW.out.trans F9).mono (Y := fun _ => False) (fun k hk h => by rcases h with h | h; exact h; omega))
                obtain ⟨z0, z1, z2, z3, z4⟩ := HBZ.out.cells
                unfold zeroT at z0 z1 z2 z3 z4
                have q0 := HBZ.out.frozen 0
                have q1 := HBZ.out.frozen 1
                have q2 := HBZ.out.frozen 2
                have q3 := HBZ.out.frozen 3
                have q4 := HBZ.out.frozen 4
                have HU := hide hw9
                clear F9 hw9
                go_wp2_with (first | (rw [← HU.out]; clear HU))
                exact bodyPost_ret (results_td2 Try.results25 _ _ w.heap.size HB9.out rfl) rfl ⟨HF9.out, .inl ⟨rfl, HNO.out⟩⟩
            · have hni : ¬ ((k : Int) < (n : Int)) := by omega
              have hnib : decide ((k : Int) < (n : Int)) = false := by simp; omega
              have HEQ : Hid (rowP tt = R) := hide (List.ext_getElem? (fun m => by
                rcases Nat.lt_or_ge m n with h | h
                · exact HAL.out m (by omega)
                · rw [List.getElem?_eq_none (by rw [HLN.out]; exact h), List.getElem?_eq_none (by rw [HN.out]; exact h)]))
              have hbt := HBX2.out.fr HF.out (fun h => h)
              have hti := HTI.out.fr HF.out (fun _ _ h => h)
              have HBT3 := hide hbt
              have HTI3 := hide hti
              have HCH := hide (check_ref _ _ _ _ _ _ _ _ _ _ _ hti)
              unfold Tb.agg at HCH
              dsimp only at HCH
              obtain ⟨x0, x1, x2, x3', x4⟩ := hbt.cells
              dsimp only at x0 x1 x2 x3' x4
              clear hbt hti hge x3
              go_wp2_with fail
              refine HCH.out.mono ?_
              rintro e w6 ⟨rfl, f6⟩
              replace HBZ := hide (HBZ.out.fr f6 (fun h => h))
              replace HFW := hide (HFW.out.two f6)
              replace HBT3 := hide (HBT3.out.fr f6 (fun h => h))
              replace HTI3 := hide (HTI3.out.fr f6 (fun _ _ h => h))
              clear HCH f6 x0 x1 x2 x3' x4
              by_cases hk : chkP s1 (colsR R j) (keysR R j) = 0
              case neg =>
                have hkb : (chkP s1 (colsR R j) (keysR R j) != 0) = true := by simp [hk]
                have HKN := hide hk
                have HNO : Hid (∀ s', ¬ GoodR R s') := hide (fun s' hg => by have e := HGK.out s' hg; rw [HTT.out] at e; simp only [Tb.key, Prod.mk.injEq] at e; have h := hg.2.2.2; rw [← e.2.1, ← e.2.2.1, ← e.2.2.2.1] at h; exact HKN.out h)
                clear HKN
                obtain ⟨w9, hw9⟩ : ∃ w9, w9 = ((((w6.setCell ⟨w.heap.size, 0, none⟩ (.int .i64 0)).setCell ⟨w.heap.size, 1, none⟩ (.string ⟨#[]⟩)).setCell ⟨w.heap.size, 2, none⟩ (.slice none 0 0)).setCell ⟨w.heap.size, 3, none⟩ (.slice none 0 0)).setCell ⟨w.heap.size, 4, none⟩ (.bool false) := ⟨_, rfl⟩
                have HB9 := hide (HBZ.out.fill (t' := zeroT) w9 hw9)
                have F9 := fr_fill (t' := zeroT) w9 hw9
                have HF9 := hide ((HFW.out.trans F9).mono (Y := fun _ => False) (fun k hk h => by rcases h with h | h; exact h; omega))
                obtain ⟨z0, z1, z2, z3, z4⟩ := HBZ.out.cells
                unfold zeroT at z0 z1 z2 z3 z4
                have q0 := HBZ.out.frozen 0
                have q1 := HBZ.out.frozen 1
                have q2 := HBZ.out.frozen 2
                have q3 := HBZ.out.frozen 3
                have q4 := HBZ.out.frozen 4
                have HU := hide hw9
                clear F9 hw9
                go_wp2_with (first | (rw [← HU.out]; clear HU))
                exact bodyPost_ret (results_td2 Try.results25 _ _ w.heap.size HB9.out rfl) rfl ⟨HF9.out, .inl ⟨rfl, HNO.out⟩⟩
              have hkb : (chkP s1 (colsR R j) (keysR R j) != 0) = false := by simp [hk]
              have HKY := hide hk
              rw [hk]
              clear hk hkb
              obtain ⟨x0, x1, x2, x3', x4⟩ := HBT3.out.cells
              dsimp only at x0 x1 x2 x3' x4
              obtain ⟨w9, hw9⟩ : ∃ w9, w9 = ((((w6.setCell ⟨w.heap.size, 0, none⟩ (.int .i64 i0)).setCell ⟨w.heap.size, 1, none⟩ (.string s1)).setCell ⟨w.heap.size, 2, none⟩ (.slice a2 j c2)).setCell ⟨w.heap.size, 3, none⟩ (.slice a5 q c5)).setCell ⟨w.heap.size, 4, none⟩ (.bool b2) := ⟨_, rfl⟩
              have HB9 := hide (HBZ.out.fill (t' := ⟨i0, s1, a2, j, c2, colsR R j, a5, q, c5, keysR R j, b2⟩) w9 hw9)
              have F9 := fr_fill (t' := ⟨i0, s1, a2, j, c2, colsR R j, a5, q, c5, keysR R j, b2⟩) w9 hw9
              have HF9 := hide ((HFW.out.trans F9).mono (Y := fun _ => False) (fun k hk h => by rcases h with h | h; exact h; omega))
              have HT9 := hide ((HTI3.out.fr F9 (fun k hk h => by omega)).mono (Q := fun g => w.heap.size ≤ g) (fun k hk => by omega))
              have HE9 : Hid (rowP ⟨i0, s1, a2, j, c2, colsR R j, a5, q, c5, keysR R j, b2⟩ = R) := hide (by have := HEQ.out; rw [HTT.out] at this; exact this)
              obtain ⟨z0, z1, z2, z3, z4⟩ := HBZ.out.cells
              unfold zeroT at z0 z1 z2 z3 z4
              have q0 := HBZ.out.frozen 0
              have q1 := HBZ.out.frozen 1
              have q2 := HBZ.out.frozen 2
              have q3 := HBZ.out.frozen 3
              have q4 := HBZ.out.frozen 4
              have HU := hide hw9
              clear F9 hw9
              go_wp2_with (rw [← HU.out]; clear HU)
              exact bodyPost_ret (results_td2 Try.results25 _ _ w.heap.size HB9.out rfl) rfl ⟨HF9.out, .inr ⟨⟨i0, s1, a2, j, c2, colsR R j, a5, q, c5, keysR R j, b2⟩, rfl, ⟨HE9.out, HI1.out.1, HI1.out.2, HKY.out⟩, HT9.out⟩⟩
end Go.Proofs.Ytdeopneififnnaa
