/- The document's Check. -/
import Derived.Test.YtiooacaplajidaaOf
namespace Go.Proofs.Ytiooacaplajidaa
open Go.RowKit Go.Maps
set_option maxRecDepth 100000
set_option linter.unusedVariables false
set_option linter.unusedSimpArgs false

def Hits (m : Dm) (x : Rw) : Prop := ∃ d ∈ m.H, x.st < d.st ∧ Meet d.K x.K
def stampD (m : Dm) : Int := max m.now (m.last + 1)
def First (m : Dm) (t : Int) (i : Nat) (x : Rw) : Prop := m.A[i]? = some x ∧ x.id = t ∧ ∀ (j : Nat) (y : Rw), j < i → m.A[j]? = some y → y.id ≠ t
def ChkD (m : Dm) (t a b : Int) : Prop := ((∀ x ∈ m.A, x.id ≠ t) ∧ a = 0 ∧ b = 70) ∨ ∃ i x, First m t i x ∧ ((x.K = [] ∧ a = x.st ∧ b = 0) ∨ (x.K ≠ [] ∧ Hits m x ∧ a = 0 ∧ b = 120) ∨ (x.K ≠ [] ∧ ¬ Hits m x ∧ ((1099511627776 ≤ stampD m ∧ a = 0 ∧ b = 3) ∨ (stampD m < 1099511627776 ∧ a = stampD m ∧ b = 0))))
def BoxX (w : World) (g : Nat) (x : Rw) : Prop := w.heap[g]? = some (.cells #[.int .i64 x.id, .int .i64 x.st, .slice x.ka x.kn x.kc] 49 (0, 0))
theorem BoxX.fr {w w' : World} {X : Nat → Prop} {g : Nat} {x : Rw} (h : BoxX w g x) (hf : Fr w w' X) (hx : ¬ X g) : BoxX w' g x := by
  unfold BoxX at *
  rw [hf.block g (Array.getElem?_eq_some_iff.1 h).1 hx]
  exact h
theorem BoxX.cells {w : World} {g : Nat} {x : Rw} (h : BoxX w g x) : w.cell? ⟨g, 0, none⟩ = some (.int .i64 x.id) ∧ w.cell? ⟨g, 1, none⟩ = some (.int .i64 x.st) ∧ w.cell? ⟨g, 2, none⟩ = some (.slice x.ka x.kn x.kc) :=
  ⟨(cell_of_row _ _ _ _ _ _ h).trans rfl, (cell_of_row _ _ _ _ _ _ h).trans rfl, (cell_of_row _ _ _ _ _ _ h).trans rfl⟩
set_option maxHeartbeats 8000000 in
theorem check_ref {Q : Nat → Prop} {w : World} {m : Dm} (h : DM Q w m) (hnb : m.A.length ≤ 1048576) (hhb : m.H.length ≤ 1048576) (hkb : ∀ x, (x ∈ m.A ∨ x ∈ m.H) → x.K.length ≤ 1048576) (t : Int) (h0 : 0 ≤ m.last) (h1 : m.last ≤ 1099511627776) : Calls Try.prog 25 #[m.agg, .int .i64 t] w fun e w' => ∃ a b, e = .returned (.tuple #[.int .i64 a, .int .i64 b]) ∧ ChkD m t a b ∧ Fr w w' (fun _ => False) := by
  have F1 := Fr.alloc w (.cells #[.int .i64 m.now, .int .i64 m.last, .int .i64 m.begun, .slice m.aa m.A.length m.ac, .slice m.ha m.H.length m.hc] 29) (fun _ => False)
  have b1 : BoxM (w.alloc (.cells #[.int .i64 m.now, .int .i64 m.last, .int .i64 m.begun, .slice m.aa m.A.length m.ac, .slice m.ha m.H.length m.hc] 29)) w.heap.size m := heap_alloc_new w _
  obtain ⟨w1, hw1⟩ : ∃ w1, w1 = w.alloc (.cells #[.int .i64 m.now, .int .i64 m.last, .int .i64 m.begun, .slice m.aa m.A.length m.ac, .slice m.ha m.H.length m.hc] 29) := ⟨_, rfl⟩
  rw [← hw1] at F1 b1
  have HW1 := hide hw1
  have HD := hide (h.frF F1)
  have HF1 := hide F1
  have HB1 := hide b1
  have HKB := hide hkb
  have hwl : IntKind.i64.wrap (m.last + 1) = m.last + 1 := wrap_i64_fit _ (by omega) (by omega)
  obtain ⟨⟨a0, a1, a2, a3, a4⟩, _⟩ := b1.all
  have HFI := hide (find_ref HD.out t hnb)
  unfold Dm.agg at HFI
  clear hw1 h F1 b1 hkb
  unfold Dm.agg
  go_enter Try.func25, Try.ntmps25
  go_wp2_with (rw [← HW1.out]; clear HW1)
  refine HFI.out.mono ?_
  rintro e V ⟨fV, ⟨i, x, hx, hxi, hf', rfl⟩ | ⟨hno, rfl⟩⟩
  rotate_left
  · have HNO := hide hno
    have HFF := hide (HF1.out.two fV)
    clear fV hno a0 a1 a2 a3 a4 HFI
    go_wp2
    go_ret2
    exact ⟨0, 70, rfl, .inl ⟨HNO.out, rfl, rfl⟩, HFF.out⟩
  have HFST : Hid (First m t i x) := hide ⟨hx, hxi, hf'⟩
  have hi0 : ¬ ((i : Int) < 0) := by omega
  have hi0b : decide ((i : Int) < 0) = false := by simp
  have hil : i < m.A.length := (List.getElem?_eq_some_iff.1 hx).1
  have hDV := HD.out.frF fV
  obtain ⟨ga, hga, e0, e1, e2⟩ := RowW.at hDV.1 hx
  obtain ⟨⟨b0, b1, b2, b3, b4⟩, _⟩ := (HB1.out.fr fV (fun h => h)).all
  rw [hga] at b3
  obtain ⟨V1, hV1⟩ : ∃ V1, V1 = V.alloc (.cells #[.int .i64 x.id, .int .i64 x.st, .slice x.ka x.kn x.kc] 49) := ⟨_, rfl⟩
  have fV1 : Fr V V1 (fun _ => False) := by rw [hV1]; exact Fr.alloc V _ _
  have HX1 : Hid (BoxX V1 V.heap.size x) := hide (by rw [hV1]; exact heap_alloc_new V _)
  have HBM : Hid (BoxM V1 w.heap.size m) := hide ((HB1.out.fr fV (fun h => h)).fr fV1 (fun h => h))
  have HD1 := hide (hDV.frF fV1)
  have HF := hide ((HF1.out.two fV).two fV1)
  obtain ⟨x0, x1, x2⟩ := HX1.out.cells
  obtain ⟨⟨d0, d1, d2, d3, d4⟩, _⟩ := HBM.out.all
  have HXM := hide (List.mem_of_getElem? hx)
  obtain ⟨kx1, kx2, kx3⟩ := HD1.out.1.2.2 x HXM.out
  have HKX := hide kx2
  have HV1 := hide hV1
  clear hV1 fV fV1 hDV hxi hf' hx a0 a1 a2 a3 a4 HFI HB1 HF1 HD kx2 kx3 hga
  by_cases hk0 : x.K = []
  · have hkn0 : x.kn = 0 := by rw [← kx1, hk0]; rfl
    have HK0 := hide hk0
    clear hk0
    rw [HV1.out, hkn0] at HF
    go_wp2
    go_ret2
    exact ⟨x.st, 0, rfl, .inr ⟨i, x, HFST.out, .inl ⟨HK0.out, rfl, rfl⟩⟩, HF.out⟩
  have hkn0 : ¬ (x.kn = 0) := by
    intro h
    rw [← kx1] at h
    exact hk0 (List.eq_nil_of_length_eq_zero h)
  have hknb : ((x.kn : Int) == 0) = false := by simp; omega
  have hkni : ¬ ((x.kn : Int) = 0) := by omega
  have HK0 := hide hk0
  have HKN := hide kx1
  clear hk0 kx1
  have hkle : x.kn ≤ 1048576 := by rw [← HKN.out]; exact HKB.out x (.inl HXM.out)
  go_wp2_with (rw [← HV1.out]; clear HV1)
  clear x0 x1 x2 d0 d1 d2 d3 d4 e0 e1 e2 b0 b1 b2 b3 b4
  generalize hg7 : V.heap.size = g7 at *
  generalize hg0 : w.heap.size = g0 at *
  clear hg7 hg0
  generalize hnH : m.H.length = nH at *
  have HNH := hide hnH
  clear hnH
  go_loopw [8] (fun ix wr => ∃ (j : Nat), j ≤ nH ∧ ix = .int .i64 (j : Int) ∧ (∀ (k : Nat) (d : Rw), k < j → m.H[k]? = some d → ¬ (x.st < d.st ∧ Meet d.K x.K)) ∧ Fr V1 wr (fun _ => False)) (fun ix _ => nH - (intOf ix).toNat)
  case atStart => exact ⟨0, Nat.zero_le _, rfl, fun k d hk => by omega, Fr.refl _ _⟩
  case round =>
    rename World => Y
    obtain ⟨j, hj, rfl, hall, hfy⟩ := hrel
    have HAL := hide hall
    have HFY := hide hfy
    clear hall hfy
    rcases Nat.lt_or_ge j nH with hlt | hge
    · obtain ⟨d, hd⟩ : ∃ d, m.H[j]? = some d := ⟨_, List.getElem?_eq_getElem (by rw [HNH.out]; exact hlt)⟩
      have D := Fr.drew Y (fun _ => False)
      have hU := HFY.out.two D
      have hRU := HD1.out.2.fr hU (fun _ _ h => h)
      obtain ⟨gh, hgh, e0, e1, e2⟩ := RowW.at hRU hd
      obtain ⟨kd1, kd2, kd3⟩ := hRU.2.2 d (List.mem_of_getElem? hd)
      have HKD := hide kd2
      have HKDN := hide kd1
      obtain ⟨⟨d0, d1, d2, d3, d4⟩, _⟩ := (HBM.out.fr hU (fun h => h)).all
      obtain ⟨⟨z0, z1, z2, z3, z4⟩, _⟩ := (HBM.out.fr HFY.out (fun h => h)).all
      obtain ⟨x0, x1, x2⟩ := (HX1.out.fr hU (fun h => h)).cells
      have HKU := hide (HKX.out.fr hU (fun _ _ h => h))
      have HDD := hide hd
      have HUU := hide hU
      have hdle : d.kn ≤ 1048576 := by rw [← kd1]; exact HKB.out d (.inr (List.mem_of_getElem? hd))
      rw [HNH.out] at d4 z4
      rw [hgh] at d4
      clear D hU hRU kd1 kd2 kd3 hd HFY hgh
      go_wp2_with fail
      refine wp_region_K (fun _ => true) (fun U : World => Fr Y.drew U (fun _ => False)) (by kernel_rfl) ?_
      generalize Y.drew = U at *
      have hS : (fun V : World => Fr U V (fun _ => False)) U := Fr.refl _ _
      by_cases hgt : x.st < d.st
      · have hgtb : decide (d.st > x.st) = true := by simp; omega
        refine wpAnyK_takeTo 0 (some 33) (.pointer (some ⟨g0, 4, none⟩)) [1, 3, 4, 5, 8, 9, 10, 11, 12, 13, 14, 15, 16, 17, 18, 19] rfl rfl (by kernel_rfl) (by kernel_rfl) (by kernel_rfl) (by kernel_rfl) (fun _ _ _ h => h) hS (Or.inl ⟨rfl, fun w9 hw1 => by have hw1 : Fr U w9 (fun _ => False) := hw1; have s4 := hw1.cell (fun h => h) d4; have s1 := hw1.cell (fun h => h) e1; have s2 := hw1.cell (fun h => h) e2; have y1 := hw1.cell (fun h => h) x1; have y2 := hw1.cell (fun h => h) x2; go_simp⟩) ?_
        simp only [Act.put, List.setIfInBounds_toArray, List.set_cons_zero, List.set_cons_succ]
        refine wpAnyK_takeTo 1 (some 34) (.slice (some ⟨gh, 0, none⟩) nH m.hc) [3, 4, 5, 8, 9, 10, 11, 12, 13, 14, 15, 16, 17, 18, 19] rfl rfl (by kernel_rfl) (by kernel_rfl) (by kernel_rfl) (by kernel_rfl) (fun _ _ _ h => h) hS (Or.inl ⟨rfl, fun w9 hw1 => by have hw1 : Fr U w9 (fun _ => False) := hw1; have s4 := hw1.cell (fun h => h) d4; have s1 := hw1.cell (fun h => h) e1; have s2 := hw1.cell (fun h => h) e2; have y1 := hw1.cell (fun h => h) x1; have y2 := hw1.cell (fun h => h) x2; go_simp⟩) ?_
        simp only [Act.put, List.setIfInBounds_toArray, List.set_cons_zero, List.set_cons_succ]
        refine wpAnyK_takeTo 2 (some 35) (.int .i64 (j : Int)) [3, 4, 5, 8, 9, 10, 11, 12, 13, 14, 15, 16, 17, 18, 19] rfl rfl (by kernel_rfl) (by kernel_rfl) (by kernel_rfl) (by kernel_rfl) (fun _ _ _ h => h) hS (Or.inl ⟨rfl, fun w9 hw1 => by have hw1 : Fr U w9 (fun _ => False) := hw1; have s4 := hw1.cell (fun h => h) d4; have s1 := hw1.cell (fun h => h) e1; have s2 := hw1.cell (fun h => h) e2; have y1 := hw1.cell (fun h => h) x1; have y2 := hw1.cell (fun h => h) x2; go_simp⟩) ?_
        simp only [Act.put, List.setIfInBounds_toArray, List.set_cons_zero, List.set_cons_succ]
        refine wpAnyK_takeTo 3 (some 36) (.pointer (some ⟨gh, j * 3, none⟩)) [4, 5, 8, 9, 10, 11, 12, 13, 14, 15, 16, 17, 18, 19] rfl rfl (by kernel_rfl) (by kernel_rfl) (by kernel_rfl) (by kernel_rfl) (fun _ _ _ h => h) hS (Or.inl ⟨rfl, fun w9 hw1 => by have hw1 : Fr U w9 (fun _ => False) := hw1; have s4 := hw1.cell (fun h => h) d4; have s1 := hw1.cell (fun h => h) e1; have s2 := hw1.cell (fun h => h) e2; have y1 := hw1.cell (fun h => h) x1; have y2 := hw1.cell (fun h => h) x2; go_simp⟩) ?_
        simp only [Act.put, List.setIfInBounds_toArray, List.set_cons_zero, List.set_cons_succ]
        refine wpAnyK_takeTo 4 (some 37) (.pointer (some ⟨gh, j * 3 + 1, none⟩)) [5, 8, 9, 10, 11, 12, 13, 14, 15, 16, 17, 18, 19] rfl rfl (by kernel_rfl) (by kernel_rfl) (by kernel_rfl) (by kernel_rfl) (fun _ _ _ h => h) hS (Or.inl ⟨rfl, fun w9 hw1 => by have hw1 : Fr U w9 (fun _ => False) := hw1; have s4 := hw1.cell (fun h => h) d4; have s1 := hw1.cell (fun h => h) e1; have s2 := hw1.cell (fun h => h) e2; have y1 := hw1.cell (fun h => h) x1; have y2 := hw1.cell (fun h => h) x2; go_simp⟩) ?_
        simp only [Act.put, List.setIfInBounds_toArray, List.set_cons_zero, List.set_cons_succ]
        refine wpAnyK_takeTo 5 (some 38) (.int .i64 d.st) [8, 9, 10, 11, 12, 13, 14, 15, 16, 17, 18, 19] rfl rfl (by kernel_rfl) (by kernel_rfl) (by kernel_rfl) (by kernel_rfl) (fun _ _ _ h => h) hS (Or.inl ⟨rfl, fun w9 hw1 => by have hw1 : Fr U w9 (fun _ => False) := hw1; have s4 := hw1.cell (fun h => h) d4; have s1 := hw1.cell (fun h => h) e1; have s2 := hw1.cell (fun h => h) e2; have y1 := hw1.cell (fun h => h) x1; have y2 := hw1.cell (fun h => h) x2; go_simp⟩) ?_
        simp only [Act.put, List.setIfInBounds_toArray, List.set_cons_zero, List.set_cons_succ]
        refine wpAnyK_takeTo 6 (some 39) (.pointer (some ⟨g7, 1, none⟩)) [7, 8, 9, 10, 11, 12, 13, 14, 15, 16, 17, 18, 19] rfl rfl (by kernel_rfl) (by kernel_rfl) (by kernel_rfl) (by kernel_rfl) (fun _ _ _ h => h) hS (Or.inl ⟨rfl, fun w9 hw1 => by have hw1 : Fr U w9 (fun _ => False) := hw1; have s4 := hw1.cell (fun h => h) d4; have s1 := hw1.cell (fun h => h) e1; have s2 := hw1.cell (fun h => h) e2; have y1 := hw1.cell (fun h => h) x1; have y2 := hw1.cell (fun h => h) x2; go_simp⟩) ?_
        simp only [Act.put, List.setIfInBounds_toArray, List.set_cons_zero, List.set_cons_succ]
        refine wpAnyK_takeTo 7 (some 40) (.int .i64 x.st) [8, 9, 10, 11, 12, 13, 14, 15, 16, 17, 18, 19] rfl rfl (by kernel_rfl) (by kernel_rfl) (by kernel_rfl) (by kernel_rfl) (fun _ _ _ h => h) hS (Or.inl ⟨rfl, fun w9 hw1 => by have hw1 : Fr U w9 (fun _ => False) := hw1; have s4 := hw1.cell (fun h => h) d4; have s1 := hw1.cell (fun h => h) e1; have s2 := hw1.cell (fun h => h) e2; have y1 := hw1.cell (fun h => h) x1; have y2 := hw1.cell (fun h => h) x2; go_simp⟩) ?_
        simp only [Act.put, List.setIfInBounds_toArray, List.set_cons_zero, List.set_cons_succ]
        refine wpAnyK_takeTo 8 (some 41) (.bool true) [9, 10, 11, 12, 13, 14, 15, 16, 17, 18, 19] rfl rfl (by kernel_rfl) (by kernel_rfl) (by kernel_rfl) (by kernel_rfl) (fun _ _ _ h => h) hS (Or.inl ⟨rfl, fun w9 hw1 => by have hw1 : Fr U w9 (fun _ => False) := hw1; have s4 := hw1.cell (fun h => h) d4; have s1 := hw1.cell (fun h => h) e1; have s2 := hw1.cell (fun h => h) e2; have y1 := hw1.cell (fun h => h) x1; have y2 := hw1.cell (fun h => h) x2; go_simp⟩) ?_
        simp only [Act.put, List.setIfInBounds_toArray, List.set_cons_zero, List.set_cons_succ]
        refine wpAnyK_takeTo 9 (some 42) (.bool true) [10, 11, 12, 13, 14, 15, 16, 17, 18, 19] rfl rfl (by kernel_rfl) (by kernel_rfl) (by kernel_rfl) (by kernel_rfl) (fun _ _ _ h => h) hS (Or.inl ⟨rfl, fun w9 hw1 => by have hw1 : Fr U w9 (fun _ => False) := hw1; have s4 := hw1.cell (fun h => h) d4; have s1 := hw1.cell (fun h => h) e1; have s2 := hw1.cell (fun h => h) e2; have y1 := hw1.cell (fun h => h) x1; have y2 := hw1.cell (fun h => h) x2; go_simp⟩) ?_
        simp only [Act.put, List.setIfInBounds_toArray, List.set_cons_zero, List.set_cons_succ]
        refine wpAnyK_takeTo 10 (some 43) (.pointer (some ⟨g0, 4, none⟩)) [11, 13, 14, 15, 18, 19] rfl rfl (by kernel_rfl) (by kernel_rfl) (by kernel_rfl) (by kernel_rfl) (fun _ _ _ h => h) hS (Or.inl ⟨rfl, fun w9 hw1 => by have hw1 : Fr U w9 (fun _ => False) := hw1; have s4 := hw1.cell (fun h => h) d4; have s1 := hw1.cell (fun h => h) e1; have s2 := hw1.cell (fun h => h) e2; have y1 := hw1.cell (fun h => h) x1; have y2 := hw1.cell (fun h => h) x2; go_simp⟩) ?_
        simp only [Act.put, List.setIfInBounds_toArray, List.set_cons_zero, List.set_cons_succ]
        refine wpAnyK_takeTo 11 (some 44) (.slice (some ⟨gh, 0, none⟩) nH m.hc) [13, 14, 15, 18, 19] rfl rfl (by kernel_rfl) (by kernel_rfl) (by kernel_rfl) (by kernel_rfl) (fun _ _ _ h => h) hS (Or.inl ⟨rfl, fun w9 hw1 => by have hw1 : Fr U w9 (fun _ => False) := hw1; have s4 := hw1.cell (fun h => h) d4; have s1 := hw1.cell (fun h => h) e1; have s2 := hw1.cell (fun h => h) e2; have y1 := hw1.cell (fun h => h) x1; have y2 := hw1.cell (fun h => h) x2; go_simp⟩) ?_
        simp only [Act.put, List.setIfInBounds_toArray, List.set_cons_zero, List.set_cons_succ]
        refine wpAnyK_takeTo 12 (some 45) (.int .i64 (j : Int)) [13, 14, 15, 18, 19] rfl rfl (by kernel_rfl) (by kernel_rfl) (by kernel_rfl) (by kernel_rfl) (fun _ _ _ h => h) hS (Or.inl ⟨rfl, fun w9 hw1 => by have hw1 : Fr U w9 (fun _ => False) := hw1; have s4 := hw1.cell (fun h => h) d4; have s1 := hw1.cell (fun h => h) e1; have s2 := hw1.cell (fun h => h) e2; have y1 := hw1.cell (fun h => h) x1; have y2 := hw1.cell (fun h => h) x2; go_simp⟩) ?_
        simp only [Act.put, List.setIfInBounds_toArray, List.set_cons_zero, List.set_cons_succ]
        refine wpAnyK_takeTo 13 (some 46) (.pointer (some ⟨gh, j * 3, none⟩)) [14, 15, 18, 19] rfl rfl (by kernel_rfl) (by kernel_rfl) (by kernel_rfl) (by kernel_rfl) (fun _ _ _ h => h) hS (Or.inl ⟨rfl, fun w9 hw1 => by have hw1 : Fr U w9 (fun _ => False) := hw1; have s4 := hw1.cell (fun h => h) d4; have s1 := hw1.cell (fun h => h) e1; have s2 := hw1.cell (fun h => h) e2; have y1 := hw1.cell (fun h => h) x1; have y2 := hw1.cell (fun h => h) x2; go_simp⟩) ?_
        simp only [Act.put, List.setIfInBounds_toArray, List.set_cons_zero, List.set_cons_succ]
        refine wpAnyK_takeTo 14 (some 47) (.pointer (some ⟨gh, j * 3 + 2, none⟩)) [15, 18, 19] rfl rfl (by kernel_rfl) (by kernel_rfl) (by kernel_rfl) (by kernel_rfl) (fun _ _ _ h => h) hS (Or.inl ⟨rfl, fun w9 hw1 => by have hw1 : Fr U w9 (fun _ => False) := hw1; have s4 := hw1.cell (fun h => h) d4; have s1 := hw1.cell (fun h => h) e1; have s2 := hw1.cell (fun h => h) e2; have y1 := hw1.cell (fun h => h) x1; have y2 := hw1.cell (fun h => h) x2; go_simp⟩) ?_
        simp only [Act.put, List.setIfInBounds_toArray, List.set_cons_zero, List.set_cons_succ]
        refine wpAnyK_takeTo 15 (some 48) (.slice d.ka d.kn d.kc) [18, 19] rfl rfl (by kernel_rfl) (by kernel_rfl) (by kernel_rfl) (by kernel_rfl) (fun _ _ _ h => h) hS (Or.inl ⟨rfl, fun w9 hw1 => by have hw1 : Fr U w9 (fun _ => False) := hw1; have s4 := hw1.cell (fun h => h) d4; have s1 := hw1.cell (fun h => h) e1; have s2 := hw1.cell (fun h => h) e2; have y1 := hw1.cell (fun h => h) x1; have y2 := hw1.cell (fun h => h) x2; go_simp⟩) ?_
        simp only [Act.put, List.setIfInBounds_toArray, List.set_cons_zero, List.set_cons_succ]
        refine wpAnyK_takeTo 16 (some 49) (.pointer (some ⟨g7, 2, none⟩)) [17, 18, 19] rfl rfl (by kernel_rfl) (by kernel_rfl) (by kernel_rfl) (by kernel_rfl) (fun _ _ _ h => h) hS (Or.inl ⟨rfl, fun w9 hw1 => by have hw1 : Fr U w9 (fun _ => False) := hw1; have s4 := hw1.cell (fun h => h) d4; have s1 := hw1.cell (fun h => h) e1; have s2 := hw1.cell (fun h => h) e2; have y1 := hw1.cell (fun h => h) x1; have y2 := hw1.cell (fun h => h) x2; go_simp⟩) ?_
        simp only [Act.put, List.setIfInBounds_toArray, List.set_cons_zero, List.set_cons_succ]
        refine wpAnyK_takeTo 17 (some 50) (.slice x.ka x.kn x.kc) [18, 19] rfl rfl (by kernel_rfl) (by kernel_rfl) (by kernel_rfl) (by kernel_rfl) (fun _ _ _ h => h) hS (Or.inl ⟨rfl, fun w9 hw1 => by have hw1 : Fr U w9 (fun _ => False) := hw1; have s4 := hw1.cell (fun h => h) d4; have s1 := hw1.cell (fun h => h) e1; have s2 := hw1.cell (fun h => h) e2; have y1 := hw1.cell (fun h => h) x1; have y2 := hw1.cell (fun h => h) x2; go_simp⟩) ?_
        simp only [Act.put, List.setIfInBounds_toArray, List.set_cons_zero, List.set_cons_succ]
        refine wpAnyK_one (i := 18) (by kernel_rfl) rfl rfl ?_
        refine wp_call_to (some 51) rfl 36 #[.slice d.ka d.kn d.kc, .slice x.ka x.kn x.kc] (by go_simp) (shares_ref d.ka d.kn d.kc d.K x.ka x.kn x.kc x.K HKD.out HKDN.out HKU.out HKN.out (by omega) (by omega)) ?_
        rintro e U2 ⟨⟨hme, rfl⟩ | ⟨hme, rfl⟩, fU⟩
        · refine ⟨_, rfl, fun _ => fU, ?_⟩
          simp only [Act.put, List.setIfInBounds_toArray, List.set_cons_zero, List.set_cons_succ]
          have HHIT : Hid (Hits m x) := hide ⟨d, List.mem_of_getElem? HDD.out, hgt, hme⟩
          have HFE := hide (HF.out.two (HUU.out.two fU))
          have HFU := hide fU
          clear hme fU hS d0 d1 d2 d3 d4 x0 x1 x2 e0 e1 e2
          refine wpAnyK_one (i := 19) (by kernel_rfl) rfl rfl ?_
          go_simp
          refine ⟨HFU.out, ?_⟩
          refine wpAnyK_done (by kernel_rfl) ?_ _
          go_wp2
          go_ret2
          exact ⟨0, 120, rfl, .inr ⟨i, x, HFST.out, .inr (.inl ⟨HK0.out, HHIT.out, rfl, rfl⟩)⟩, HFE.out⟩
        · refine ⟨_, rfl, fun _ => fU, ?_⟩
          simp only [Act.put, List.setIfInBounds_toArray, List.set_cons_zero, List.set_cons_succ]
          have HME := hide hme
          have HFE := hide (HUU.out.two fU)
          have HFU := hide fU
          clear hme fU hS d0 d1 d2 d3 d4 x0 x1 x2 e0 e1 e2 z0 z1 z2 z3 z4
          refine wpAnyK_one (i := 19) (by kernel_rfl) rfl rfl ?_
          go_simp
          refine ⟨HFU.out, ?_⟩
          refine wpAnyK_done (by kernel_rfl) ?_ _
          go_wp2
          go_roundw
          case rel => exact ⟨j + 1, by omega, by go_num, fun k z hk hz => by
            rcases Nat.lt_or_ge k j with h | h
            · exact HAL.out k z h hz
            · have : k = j := by omega
              subst this
              rw [HDD.out] at hz
              cases hz
              exact fun h => HME.out h.2, HFE.out⟩
          case measure => simp [intOf]; omega
      · have hgtb : decide (d.st > x.st) = false := by simp; omega
        have HGT := hide hgt
        clear hgt
        refine wpAnyK_takeTo 0 (some 33) (.pointer (some ⟨g0, 4, none⟩)) [1, 3, 4, 5, 8, 9, 10, 11, 12, 13, 14, 15, 16, 17, 18, 19] rfl rfl (by kernel_rfl) (by kernel_rfl) (by kernel_rfl) (by kernel_rfl) (fun _ _ _ h => h) hS (Or.inl ⟨rfl, fun w9 hw1 => by have hw1 : Fr U w9 (fun _ => False) := hw1; have s4 := hw1.cell (fun h => h) d4; have s1 := hw1.cell (fun h => h) e1; have s2 := hw1.cell (fun h => h) e2; have y1 := hw1.cell (fun h => h) x1; have y2 := hw1.cell (fun h => h) x2; go_simp⟩) ?_
        simp only [Act.put, List.setIfInBounds_toArray, List.set_cons_zero, List.set_cons_succ]
        refine wpAnyK_takeTo 1 (some 34) (.slice (some ⟨gh, 0, none⟩) nH m.hc) [3, 4, 5, 8, 9, 10, 11, 12, 13, 14, 15, 16, 17, 18, 19] rfl rfl (by kernel_rfl) (by kernel_rfl) (by kernel_rfl) (by kernel_rfl) (fun _ _ _ h => h) hS (Or.inl ⟨rfl, fun w9 hw1 => by have hw1 : Fr U w9 (fun _ => False) := hw1; have s4 := hw1.cell (fun h => h) d4; have s1 := hw1.cell (fun h => h) e1; have s2 := hw1.cell (fun h => h) e2; have y1 := hw1.cell (fun h => h) x1; have y2 := hw1.cell (fun h => h) x2; go_simp⟩) ?_
        simp only [Act.put, List.setIfInBounds_toArray, List.set_cons_zero, List.set_cons_succ]
        refine wpAnyK_takeTo 2 (some 35) (.int .i64 (j : Int)) [3, 4, 5, 8, 9, 10, 11, 12, 13, 14, 15, 16, 17, 18, 19] rfl rfl (by kernel_rfl) (by kernel_rfl) (by kernel_rfl) (by kernel_rfl) (fun _ _ _ h => h) hS (Or.inl ⟨rfl, fun w9 hw1 => by have hw1 : Fr U w9 (fun _ => False) := hw1; have s4 := hw1.cell (fun h => h) d4; have s1 := hw1.cell (fun h => h) e1; have s2 := hw1.cell (fun h => h) e2; have y1 := hw1.cell (fun h => h) x1; have y2 := hw1.cell (fun h => h) x2; go_simp⟩) ?_
        simp only [Act.put, List.setIfInBounds_toArray, List.set_cons_zero, List.set_cons_succ]
        refine wpAnyK_takeTo 3 (some 36) (.pointer (some ⟨gh, j * 3, none⟩)) [4, 5, 8, 9, 10, 11, 12, 13, 14, 15, 16, 17, 18, 19] rfl rfl (by kernel_rfl) (by kernel_rfl) (by kernel_rfl) (by kernel_rfl) (fun _ _ _ h => h) hS (Or.inl ⟨rfl, fun w9 hw1 => by have hw1 : Fr U w9 (fun _ => False) := hw1; have s4 := hw1.cell (fun h => h) d4; have s1 := hw1.cell (fun h => h) e1; have s2 := hw1.cell (fun h => h) e2; have y1 := hw1.cell (fun h => h) x1; have y2 := hw1.cell (fun h => h) x2; go_simp⟩) ?_
        simp only [Act.put, List.setIfInBounds_toArray, List.set_cons_zero, List.set_cons_succ]
        refine wpAnyK_takeTo 4 (some 37) (.pointer (some ⟨gh, j * 3 + 1, none⟩)) [5, 8, 9, 10, 11, 12, 13, 14, 15, 16, 17, 18, 19] rfl rfl (by kernel_rfl) (by kernel_rfl) (by kernel_rfl) (by kernel_rfl) (fun _ _ _ h => h) hS (Or.inl ⟨rfl, fun w9 hw1 => by have hw1 : Fr U w9 (fun _ => False) := hw1; have s4 := hw1.cell (fun h => h) d4; have s1 := hw1.cell (fun h => h) e1; have s2 := hw1.cell (fun h => h) e2; have y1 := hw1.cell (fun h => h) x1; have y2 := hw1.cell (fun h => h) x2; go_simp⟩) ?_
        simp only [Act.put, List.setIfInBounds_toArray, List.set_cons_zero, List.set_cons_succ]
        refine wpAnyK_takeTo 5 (some 38) (.int .i64 d.st) [8, 9, 10, 11, 12, 13, 14, 15, 16, 17, 18, 19] rfl rfl (by kernel_rfl) (by kernel_rfl) (by kernel_rfl) (by kernel_rfl) (fun _ _ _ h => h) hS (Or.inl ⟨rfl, fun w9 hw1 => by have hw1 : Fr U w9 (fun _ => False) := hw1; have s4 := hw1.cell (fun h => h) d4; have s1 := hw1.cell (fun h => h) e1; have s2 := hw1.cell (fun h => h) e2; have y1 := hw1.cell (fun h => h) x1; have y2 := hw1.cell (fun h => h) x2; go_simp⟩) ?_
        simp only [Act.put, List.setIfInBounds_toArray, List.set_cons_zero, List.set_cons_succ]
        refine wpAnyK_takeTo 6 (some 39) (.pointer (some ⟨g7, 1, none⟩)) [7, 8, 9, 10, 11, 12, 13, 14, 15, 16, 17, 18, 19] rfl rfl (by kernel_rfl) (by kernel_rfl) (by kernel_rfl) (by kernel_rfl) (fun _ _ _ h => h) hS (Or.inl ⟨rfl, fun w9 hw1 => by have hw1 : Fr U w9 (fun _ => False) := hw1; have s4 := hw1.cell (fun h => h) d4; have s1 := hw1.cell (fun h => h) e1; have s2 := hw1.cell (fun h => h) e2; have y1 := hw1.cell (fun h => h) x1; have y2 := hw1.cell (fun h => h) x2; go_simp⟩) ?_
        simp only [Act.put, List.setIfInBounds_toArray, List.set_cons_zero, List.set_cons_succ]
        refine wpAnyK_takeTo 7 (some 40) (.int .i64 x.st) [8, 9, 10, 11, 12, 13, 14, 15, 16, 17, 18, 19] rfl rfl (by kernel_rfl) (by kernel_rfl) (by kernel_rfl) (by kernel_rfl) (fun _ _ _ h => h) hS (Or.inl ⟨rfl, fun w9 hw1 => by have hw1 : Fr U w9 (fun _ => False) := hw1; have s4 := hw1.cell (fun h => h) d4; have s1 := hw1.cell (fun h => h) e1; have s2 := hw1.cell (fun h => h) e2; have y1 := hw1.cell (fun h => h) x1; have y2 := hw1.cell (fun h => h) x2; go_simp⟩) ?_
        simp only [Act.put, List.setIfInBounds_toArray, List.set_cons_zero, List.set_cons_succ]
        refine wpAnyK_takeTo 8 (some 41) (.bool false) [9, 10, 11, 12, 13, 14, 15, 16, 17, 18, 19] rfl rfl (by kernel_rfl) (by kernel_rfl) (by kernel_rfl) (by kernel_rfl) (fun _ _ _ h => h) hS (Or.inl ⟨rfl, fun w9 hw1 => by have hw1 : Fr U w9 (fun _ => False) := hw1; have s4 := hw1.cell (fun h => h) d4; have s1 := hw1.cell (fun h => h) e1; have s2 := hw1.cell (fun h => h) e2; have y1 := hw1.cell (fun h => h) x1; have y2 := hw1.cell (fun h => h) x2; go_simp⟩) ?_
        simp only [Act.put, List.setIfInBounds_toArray, List.set_cons_zero, List.set_cons_succ]
        refine wpAnyK_takeTo 9 (some 42) (.bool false) [10, 11, 12, 13, 14, 15, 16, 17, 18, 19] rfl rfl (by kernel_rfl) (by kernel_rfl) (by kernel_rfl) (by kernel_rfl) (fun _ _ _ h => h) hS (Or.inl ⟨rfl, fun w9 hw1 => by have hw1 : Fr U w9 (fun _ => False) := hw1; have s4 := hw1.cell (fun h => h) d4; have s1 := hw1.cell (fun h => h) e1; have s2 := hw1.cell (fun h => h) e2; have y1 := hw1.cell (fun h => h) x1; have y2 := hw1.cell (fun h => h) x2; go_simp⟩) ?_
        simp only [Act.put, List.setIfInBounds_toArray, List.set_cons_zero, List.set_cons_succ]
        refine wpAnyK_takeTo 10 (some 43) (undef) [11, 13, 14, 15, 18, 19] rfl rfl (by kernel_rfl) (by kernel_rfl) (by kernel_rfl) (by kernel_rfl) (fun _ _ _ h => h) hS (Or.inr ⟨rfl, rfl⟩) ?_
        simp only [Act.put, List.setIfInBounds_toArray, List.set_cons_zero, List.set_cons_succ]
        refine wpAnyK_takeTo 11 (some 44) (undef) [13, 14, 15, 18, 19] rfl rfl (by kernel_rfl) (by kernel_rfl) (by kernel_rfl) (by kernel_rfl) (fun _ _ _ h => h) hS (Or.inr ⟨rfl, rfl⟩) ?_
        simp only [Act.put, List.setIfInBounds_toArray, List.set_cons_zero, List.set_cons_succ]
        refine wpAnyK_takeTo 12 (some 45) (undef) [13, 14, 15, 18, 19] rfl rfl (by kernel_rfl) (by kernel_rfl) (by kernel_rfl) (by kernel_rfl) (fun _ _ _ h => h) hS (Or.inr ⟨rfl, rfl⟩) ?_
        simp only [Act.put, List.setIfInBounds_toArray, List.set_cons_zero, List.set_cons_succ]
        refine wpAnyK_takeTo 13 (some 46) (undef) [14, 15, 18, 19] rfl rfl (by kernel_rfl) (by kernel_rfl) (by kernel_rfl) (by kernel_rfl) (fun _ _ _ h => h) hS (Or.inr ⟨rfl, rfl⟩) ?_
        simp only [Act.put, List.setIfInBounds_toArray, List.set_cons_zero, List.set_cons_succ]
        refine wpAnyK_takeTo 14 (some 47) (undef) [15, 18, 19] rfl rfl (by kernel_rfl) (by kernel_rfl) (by kernel_rfl) (by kernel_rfl) (fun _ _ _ h => h) hS (Or.inr ⟨rfl, rfl⟩) ?_
        simp only [Act.put, List.setIfInBounds_toArray, List.set_cons_zero, List.set_cons_succ]
        refine wpAnyK_takeTo 15 (some 48) (undef) [18, 19] rfl rfl (by kernel_rfl) (by kernel_rfl) (by kernel_rfl) (by kernel_rfl) (fun _ _ _ h => h) hS (Or.inr ⟨rfl, rfl⟩) ?_
        simp only [Act.put, List.setIfInBounds_toArray, List.set_cons_zero, List.set_cons_succ]
        refine wpAnyK_takeTo 16 (some 49) (undef) [17, 18, 19] rfl rfl (by kernel_rfl) (by kernel_rfl) (by kernel_rfl) (by kernel_rfl) (fun _ _ _ h => h) hS (Or.inr ⟨rfl, rfl⟩) ?_
        simp only [Act.put, List.setIfInBounds_toArray, List.set_cons_zero, List.set_cons_succ]
        refine wpAnyK_takeTo 17 (some 50) (undef) [18, 19] rfl rfl (by kernel_rfl) (by kernel_rfl) (by kernel_rfl) (by kernel_rfl) (fun _ _ _ h => h) hS (Or.inr ⟨rfl, rfl⟩) ?_
        simp only [Act.put, List.setIfInBounds_toArray, List.set_cons_zero, List.set_cons_succ]
        refine wpAnyK_takeTo 18 (some 51) (undef) [19] rfl rfl (by kernel_rfl) (by kernel_rfl) (by kernel_rfl) (by kernel_rfl) (fun _ _ _ h => h) hS (Or.inr ⟨rfl, rfl⟩) ?_
        simp only [Act.put, List.setIfInBounds_toArray, List.set_cons_zero, List.set_cons_succ]
        refine wpAnyK_takeTo 19 (some 52) (.bool false) [] rfl rfl (by kernel_rfl) (by kernel_rfl) (by kernel_rfl) (by kernel_rfl) (fun _ _ _ h => h) hS (Or.inl ⟨rfl, fun w9 hw1 => by have hw1 : Fr U w9 (fun _ => False) := hw1; have s4 := hw1.cell (fun h => h) d4; have s1 := hw1.cell (fun h => h) e1; have s2 := hw1.cell (fun h => h) e2; have y1 := hw1.cell (fun h => h) x1; have y2 := hw1.cell (fun h => h) x2; go_simp⟩) ?_
        simp only [Act.put, List.setIfInBounds_toArray, List.set_cons_zero, List.set_cons_succ]
        refine wpAnyK_done (by kernel_rfl) ?_ _
        clear hS d0 d1 d2 d3 d4 x0 x1 x2 e0 e1 e2 z0 z1 z2 z3 z4
        go_wp2
        go_roundw
        case rel => exact ⟨j + 1, by omega, by go_num, fun k z hk hz => by
          rcases Nat.lt_or_ge k j with h | h
          · exact HAL.out k z h hz
          · have : k = j := by omega
            subst this
            rw [HDD.out] at hz
            cases hz
            exact fun h => HGT.out h.1, HUU.out⟩
        case measure => simp [intOf]; omega
    · have e1 : nH = j := by omega
      subst e1
      have HNO : Hid (¬ Hits m x) := hide (fun ⟨d, hd, hh⟩ => by
        obtain ⟨k, hk, hk2⟩ := List.getElem_of_mem hd
        exact HAL.out k d (by rw [HNH.out] at hk; exact hk) (by rw [List.getElem?_eq_getElem hk, hk2]) hh)
      obtain ⟨⟨d0, d1, d2, d3, d4⟩, _⟩ := (HBM.out.fr HFY.out (fun h => h)).all
      rw [HNH.out] at d4
      have HFE := hide (HF.out.two HFY.out)
      by_cases hs1 : m.last + 1 < m.now
      · have hs1b : decide (m.now > m.last + 1) = true := by simp; omega
        have hst : stampD m = m.now := by unfold stampD; omega
        have HST := hide hst
        clear hst
        by_cases hs2 : 1099511627776 ≤ m.now
        · have hs2b : decide (m.now ≥ 1099511627776) = true := by simp; omega
          go_wp2
          go_ret2
          exact ⟨0, 3, rfl, .inr ⟨i, x, HFST.out, .inr (.inr ⟨HK0.out, HNO.out, .inl ⟨by rw [HST.out]; exact hs2, rfl, rfl⟩⟩)⟩, HFE.out⟩
        · have hs2b : decide (m.now ≥ 1099511627776) = false := by simp; omega
          go_wp2
          go_ret2
          exact ⟨m.now, 0, rfl, .inr ⟨i, x, HFST.out, .inr (.inr ⟨HK0.out, HNO.out, .inr ⟨by rw [HST.out]; omega, HST.out.symm, rfl⟩⟩)⟩, HFE.out⟩
      · have hs1b : decide (m.now > m.last + 1) = false := by simp; omega
        have hst : stampD m = m.last + 1 := by unfold stampD; omega
        have HST := hide hst
        clear hst
        by_cases hs2 : 1099511627776 ≤ m.last + 1
        · have hs2b : decide (m.last + 1 ≥ 1099511627776) = true := by simp; omega
          go_wp2
          go_ret2
          exact ⟨0, 3, rfl, .inr ⟨i, x, HFST.out, .inr (.inr ⟨HK0.out, HNO.out, .inl ⟨by rw [HST.out]; exact hs2, rfl, rfl⟩⟩)⟩, HFE.out⟩
        · have hs2b : decide (m.last + 1 ≥ 1099511627776) = false := by simp; omega
          go_wp2
          go_ret2
          exact ⟨m.last + 1, 0, rfl, .inr ⟨i, x, HFST.out, .inr (.inr ⟨HK0.out, HNO.out, .inr ⟨by rw [HST.out]; omega, HST.out.symm, rfl⟩⟩)⟩, HFE.out⟩
end Go.Proofs.Ytiooacaplajidaa
