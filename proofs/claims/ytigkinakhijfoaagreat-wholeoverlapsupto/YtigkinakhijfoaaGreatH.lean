/- slices.Insert: in place; all roads together. -/
import Derived.Test.YtigkinakhijfoaaGreatG
import Derived.Lib.Overlaps
namespace Go.Proofs.YtigkinakhijfoaaGreat
open Go.RowKit
set_option maxRecDepth 100000
set_option linter.unusedVariables false
set_option linter.unusedSimpArgs false

set_option maxHeartbeats 4000000 in
theorem insert_shiftI {w : World} (g n cap : Nat) (cur : Array Value) (xs : List Value) (hg : w.heap[g]? = some (.cells cur 106 (0, 0))) (hcm : cap ≤ maxLen) (hcs : cur.size = cap * 2) (htk : cur.toList.take (n * 2) = xs) (h1 : ∀ u ∈ xs, u.oneCell' = true) (hb : n ≤ 1048576) (i : Nat) (hi : i < n) (hroom : n + 1 ≤ cap) (vb : Nat) (ys : List Value) (hvb : w.heap[vb]? = some (.cells ys.toArray 106 (0, 0))) (hyl : ys.length = 2) (hy1 : ∀ u ∈ ys, u.oneCell' = true) (hne : vb ≠ g) : Calls Tryz.prog 54 #[.slice (some ⟨g, 0, none⟩) n cap, .int .i64 (i : Int), .slice (some ⟨vb, 0, none⟩) 1 1] w (InsI w (.slice (some ⟨g, 0, none⟩) n cap) n i xs ys) := by
  have hcl : cur.toList.length = cap * 2 := by simpa using hcs
  have hxl : xs.length = n * 2 := by rw [← htk, List.length_take]; omega
  have hgx : ∀ (q : Nat) (u : Value), xs[q]? = some u → cur.toList[q]? = some u := fun q u hu => by
    have : (cur.toList.take (n * 2))[q]? = some u := by rw [htk]; exact hu
    rw [List.getElem?_take] at this
    split at this
    · exact this
    · cases this
  have hgd : w.drew.heap[g]? = some (.cells cur 106 (0, 0)) := hg
  have hov : ∀ lb cb, (callFunc 91 #[.slice (some ⟨vb, 0, none⟩) 1 1, .slice (some ⟨g, (i + 1) * 2, none⟩) lb cb]).run Tryz.prog w = .ok (.value (.bool false)) w := fun lb cb => by
    rw [run_callFunc_extern Tryz.func91 (by kernel_rfl) (by kernel_rfl) (by kernel_rfl) (e := Extern.SlicesOverlaps.overlaps #[75, 75] #[4]) (by kernel_rfl),
      Lib.run_overlaps_apart w 75 4 106 Tryz.underlying75 2 Tryz.sizeOf106 ⟨vb, 0, none⟩ ⟨g, (i + 1) * 2, none⟩ 1 1 lb cb hne 106 106 ys.toArray.size cur.size (by simp [World.shape?, hvb]) (by simp [World.shape?, hg]) (by rw [hcs]; omega) (block_frozen hvb _) (block_frozen hvb _)]
    rfl
  have hdl : (xs.drop (i * 2)).length = (n - i) * 2 := by rw [List.length_drop, hxl]; omega
  obtain ⟨W1, hW1⟩ : ∃ W1, W1 = w.drew.setCells g ((i + 1) * 2) (xs.drop (i * 2)) := ⟨_, rfl⟩
  obtain ⟨C1, b1, s1, l1⟩ := setCells_at g 106 (0, 0) (xs.drop (i * 2)) ((i + 1) * 2) w.drew cur hgd (by rw [hdl, hcs]; omega)
  rw [← hW1] at b1
  have f1 : Fr w W1 (fun k => k = g) := by rw [hW1]; exact (Fr.drew w _).two (setCells_fr _ _ _ _)
  have hcp1 : ∀ ty dc sc, (Builtin.copy_ #[75, 75] ty #[.slice (some ⟨g, (i + 1) * 2, none⟩) (n + 1 - (i + 1)) dc, .slice (some ⟨g, i * 2, none⟩) (n + 1 - i) sc]).run Tryz.prog w.drew = .ok (goInt (Nat.min (n + 1 - i) (n + 1 - (i + 1)))) W1 := fun ty dc sc => by
    rw [hW1]
    exact run_copyI w.drew ty _ _ _ _ _ _ _ (xs.drop (i * 2)) (by rw [hdl, show Nat.min (n + 1 - i) (n + 1 - (i + 1)) = n - i from by rw [show n + 1 - (i + 1) = n - i by omega]; exact Nat.min_eq_right (by omega)]) (fun j u hu => by
      rw [Addr.add_mid, block_cell hgd]
      rw [List.getElem?_drop] at hu
      exact hgx _ u hu) (fun j hj => by rw [hdl] at hj; rw [block_cell hgd, List.getElem?_eq_getElem (by rw [hcl]; omega)]; rfl) (fun j _ => block_frozen hgd _) (fun u hu => h1 u (List.mem_of_mem_drop hu))
  obtain ⟨W2, hW2⟩ : ∃ W2, W2 = W1.setCells g (i * 2) ys := ⟨_, rfl⟩
  obtain ⟨C2, b2, s2, l2⟩ := setCells_at g 106 (0, 0) ys (i * 2) W1 C1 b1 (by rw [hyl, s1, hcs]; omega)
  rw [← hW2] at b2
  have f2 : Fr W1 W2 (fun k => k = g) := by rw [hW2]; exact setCells_fr _ _ _ _
  have hcp2 : ∀ ty dc, (Builtin.copy_ #[75, 75] ty #[.slice (some ⟨g, i * 2, none⟩) (n + 1 - i) dc, .slice (some ⟨vb, 0, none⟩) 1 1]).run Tryz.prog W1 = .ok (goInt (Nat.min 1 (n + 1 - i))) W2 := fun ty dc => by
    rw [hW2]
    exact run_copyI W1 ty _ _ _ _ _ _ _ ys (by rw [hyl, show Nat.min 1 (n + 1 - i) = 1 from Nat.min_eq_left (by omega)]) (fun j u hu => by
      rw [Addr.add_mid, Nat.zero_add]
      exact f1.cell hne (by rw [block_cell hvb]; simpa using hu)) (fun j hj => by rw [hyl] at hj; rw [block_cell b1, List.getElem?_eq_getElem (by simp; rw [s1, hcs]; omega)]; rfl) (fun j _ => block_frozen b1 _) hy1
  have hti2 : (xs.take (i * 2)).length = i * 2 := by rw [List.length_take]; omega
  have hct : cur.toList.take (i * 2) = xs.take (i * 2) := by rw [← htk, List.take_take, Nat.min_eq_left (by omega)]
  have hrow : W2.ownsRow 0 106 2 (.slice (some ⟨g, 0, none⟩) (n + 1) cap) (n + 1) (xs.take (i * 2) ++ ys ++ xs.drop (i * 2)) := by
    refine ⟨by rw [List.length_append, List.length_append, hti2, hyl, hdl]; omega, .inr ⟨g, cap, C2, rfl, Nat.zero_le _, b2, hroom, hcm, by rw [s2, s1, hcs], ?_⟩⟩
    have e1 : C1.toList.take (i * 2) = xs.take (i * 2) := by
      rw [l1, List.append_assoc, List.take_append, List.take_take, Nat.min_eq_left (by omega), hct, show i * 2 - (cur.toList.take ((i + 1) * 2)).length = 0 by rw [List.length_take]; omega]
      simp
    have e2 : C1.toList.drop (i * 2 + ys.length) = xs.drop (i * 2) ++ cur.toList.drop ((i + 1) * 2 + (xs.drop (i * 2)).length) := by
      have ht : (cur.toList.take ((i + 1) * 2)).length = i * 2 + ys.length := by rw [List.length_take, hyl]; omega
      rw [l1, List.append_assoc, ← ht, List.drop_left]
    rw [l2, e1, e2, ← List.append_assoc]
    exact take_app (by rw [List.length_append, List.length_append, hti2, hyl, hdl]; omega)
  have hfrx : Fr w W2 (fun k => (Value.slice (some ⟨g, 0, none⟩) n cap).ownBlock = some k) := (f1.two f2).mono (fun k hk h => by
    have h' : k = g := h
    rw [h']; rfl)
  have HRES : Hid (InsI w (.slice (some ⟨g, 0, none⟩) n cap) n i xs ys (.returned (.slice (some ⟨g, 0, none⟩) (n + 1) cap)) W2) := hide ⟨_, rfl, hrow, .inl rfl, hfrx⟩
  obtain ⟨n1, hn1⟩ : ∃ n1, n1 = n + 1 := ⟨_, rfl⟩
  obtain ⟨i1, hi1⟩ : ∃ i1, i1 = i + 1 := ⟨_, rfl⟩
  rw [← hn1] at HRES hcp2
  rw [← hn1, ← hi1] at hcp1
  rw [← hi1] at hov
  have hi1i : (i : Int) + 1 = (i1 : Int) := by omega
  have hn1i : (n : Int) + 1 = (n1 : Int) := by omega
  have hz2 : ¬ ((i : Int) = (n : Int)) := by omega
  have hz2b : ((i : Int) == (n : Int)) = false := by simp; omega
  have hz3 : ¬ ((cap : Int) < (n1 : Int)) := by omega
  have hz3b : decide ((n1 : Int) > (cap : Int)) = false := by simp; omega
  have hz3c : (n1 : Int) ≤ (cap : Int) := by omega
  have hci : ¬ (cap = i) := by omega
  have hci1 : ¬ (cap = i1) := by omega
  have hin : i ≤ n := by omega
  have hi1n : i1 ≤ n1 := by omega
  have hinn : i ≤ n1 := by omega
  have hnc : n1 ≤ cap := by omega
  have hic : i ≤ cap := by omega
  have hi1c : i1 ≤ cap := by omega
  have hn1b : n1 ≤ 1048577 := by omega
  have hi1b : i1 ≤ 1048577 := by omega
  have hGm : cap ≤ 9223372036854775807 := by unfold maxLen at hcm; omega
  have hw1 : IntKind.i64.wrap (n1 : Int) = (n1 : Int) := by rw [IntKind.wrap_i64]; omega
  have hw2 : IntKind.i64.wrap (i1 : Int) = (i1 : Int) := by rw [IntKind.wrap_i64]; omega
  clear hcl hxl hgx hgd hdl hW1 b1 s1 l1 f1 hW2 b2 s2 l2 f2 hti2 hct hrow hfrx hn1 hi1 hg hcm hcs htk h1 hvb hyl hy1 hroom hne
  go_enter Tryz.func54, Tryz.ntmps54
  go_wp2_with (simp only [hov])
  refine wp_region_K (fun z => decide (z < 8)) (fun U : World => U = w.drew) (by kernel_rfl) ?_
  have hS : (fun U : World => U = w.drew) w.drew := rfl
  refine wpAnyK_takeTo 0 (some 69) (.slice (some ⟨g, 0, none⟩) n1 cap) [4, 8] rfl rfl (by kernel_rfl) (by kernel_rfl) (by kernel_rfl) (by kernel_rfl) (fun _ _ _ h => h) hS (Or.inl ⟨rfl, fun w1 hw1 => by go_simp⟩) ?_
  simp only [Act.put, List.setIfInBounds_toArray, List.set_cons_zero, List.set_cons_succ]
  refine wpAnyK_takeTo 1 (some 70) (.int .i64 (i : Int)) [3, 4, 8] rfl rfl (by kernel_rfl) (by kernel_rfl) (by kernel_rfl) (by kernel_rfl) (fun _ _ _ h => h) hS (Or.inl ⟨rfl, fun w1 hw1 => by go_simp⟩) ?_
  simp only [Act.put, List.setIfInBounds_toArray, List.set_cons_zero, List.set_cons_succ]
  refine wpAnyK_takeTo 2 (some 71) (.int .i64 1) [3, 4, 8] rfl rfl (by kernel_rfl) (by kernel_rfl) (by kernel_rfl) (by kernel_rfl) (fun _ _ _ h => h) hS (Or.inl ⟨rfl, fun w1 hw1 => by go_simp⟩) ?_
  simp only [Act.put, List.setIfInBounds_toArray, List.set_cons_zero, List.set_cons_succ]
  refine wpAnyK_takeTo 3 (some 72) (.int .i64 (i1 : Int)) [4, 8] rfl rfl (by kernel_rfl) (by kernel_rfl) (by kernel_rfl) (by kernel_rfl) (fun _ _ _ h => h) hS (Or.inl ⟨rfl, fun w1 hw1 => by go_simp⟩) ?_
  simp only [Act.put, List.setIfInBounds_toArray, List.set_cons_zero, List.set_cons_succ]
  refine wpAnyK_takeTo 4 (some 73) (.slice (some ⟨g, i1 * 2, none⟩) (n1 - i1) (cap - i1)) [8] rfl rfl (by kernel_rfl) (by kernel_rfl) (by kernel_rfl) (by kernel_rfl) (fun _ _ _ h => h) hS (Or.inl ⟨rfl, fun w1 hw1 => by go_simp⟩) ?_
  simp only [Act.put, List.setIfInBounds_toArray, List.set_cons_zero, List.set_cons_succ]
  refine wpAnyK_takeTo 5 (some 74) (.slice (some ⟨g, 0, none⟩) n1 cap) [7, 8] rfl rfl (by kernel_rfl) (by kernel_rfl) (by kernel_rfl) (by kernel_rfl) (fun _ _ _ h => h) hS (Or.inl ⟨rfl, fun w1 hw1 => by go_simp⟩) ?_
  simp only [Act.put, List.setIfInBounds_toArray, List.set_cons_zero, List.set_cons_succ]
  refine wpAnyK_takeTo 6 (some 75) (.int .i64 (i : Int)) [7, 8] rfl rfl (by kernel_rfl) (by kernel_rfl) (by kernel_rfl) (by kernel_rfl) (fun _ _ _ h => h) hS (Or.inl ⟨rfl, fun w1 hw1 => by go_simp⟩) ?_
  simp only [Act.put, List.setIfInBounds_toArray, List.set_cons_zero, List.set_cons_succ]
  refine wpAnyK_takeTo 7 (some 76) (.slice (some ⟨g, i * 2, none⟩) (n1 - i) (cap - i)) [8] rfl rfl (by kernel_rfl) (by kernel_rfl) (by kernel_rfl) (by kernel_rfl) (fun _ _ _ h => h) hS (Or.inl ⟨rfl, fun w1 hw1 => by go_simp⟩) ?_
  simp only [Act.put, List.setIfInBounds_toArray, List.set_cons_zero, List.set_cons_succ]
  refine wpAnyK_one (i := 8) (by kernel_rfl) rfl rfl ?_
  refine wp_copy_to (.tmp 73) (.tmp 76) 75 rfl _ rfl _ rfl _ _ rfl rfl _ _ (hcp1 _ _ _) ⟨fun h => by simp at h, ?_⟩
  simp only [Act.put, List.setIfInBounds_toArray, List.set_cons_zero, List.set_cons_succ]
  refine wpAnyK_done (by kernel_rfl) ?_ _
  clear hS hcp1
  go_wp2_with (refine wpList_plain rfl fun _ hK => wp_copy_to (.tmp 80) (.tmp 81) 75 rfl _ rfl _ rfl _ _ rfl rfl _ _ (hcp2 _ _) (hK _ _ ?_); clear hK)
  go_ret
  exact HRES.out
theorem insertI {w : World} (v : Value) (n : Nat) (xs : List Value) (hr : w.ownsRow 0 106 2 v n xs) (h1 : ∀ u ∈ xs, u.oneCell' = true) (hb : n ≤ 1048576) (i : Nat) (hi : i ≤ n) (vb : Nat) (ys : List Value) (hvb : w.heap[vb]? = some (.cells ys.toArray 106 (0, 0))) (hyl : ys.length = 2) (hy1 : ∀ u ∈ ys, u.oneCell' = true) (hne : v.ownBlock ≠ some vb) : Calls Tryz.prog 54 #[v, .int .i64 (i : Int), .slice (some ⟨vb, 0, none⟩) 1 1] w (InsI w v n i xs ys) := by
  rcases Nat.lt_or_ge i n with h | h
  · rcases hr.2 with ⟨rfl, h0⟩ | ⟨g, cap, cur, rfl, _, hg, hnc, hcm, hcs, htk⟩
    · omega
    · rcases Nat.lt_or_ge cap (n + 1) with h2 | h2
      · exact insert_growI g n cap cur xs hg hnc hcs htk h1 hb i h h2 vb ys hvb hyl hy1
      · exact insert_shiftI g n cap cur xs hg hcm hcs htk h1 hb i h h2 vb ys hvb hyl hy1 (fun e => hne (by rw [e]; rfl))
  · obtain rfl : i = n := by omega
    exact insert_endI v i xs hr hb vb ys hvb hyl hy1
set_option maxHeartbeats 4000000 in
theorem insert_shiftK {w : World} (g n cap : Nat) (cur : Array Value) (xs : List Value) (hg : w.heap[g]? = some (.cells cur 74 (0, 0))) (hcm : cap ≤ maxLen) (hcs : cur.size = cap * 1) (htk : cur.toList.take (n * 1) = xs) (h1 : ∀ u ∈ xs, u.oneCell' = true) (hb : n ≤ 1048576) (i : Nat) (hi : i < n) (hroom : n + 1 ≤ cap) (vb : Nat) (ys : List Value) (hvb : w.heap[vb]? = some (.cells ys.toArray 74 (0, 0))) (hyl : ys.length = 1) (hy1 : ∀ u ∈ ys, u.oneCell' = true) (hne : vb ≠ g) : Calls Tryz.prog 90 #[.slice (some ⟨g, 0, none⟩) n cap, .int .i64 (i : Int), .slice (some ⟨vb, 0, none⟩) 1 1] w (InsK w (.slice (some ⟨g, 0, none⟩) n cap) n i xs ys) := by
  have hcl : cur.toList.length = cap * 1 := by simpa using hcs
  have hxl : xs.length = n * 1 := by rw [← htk, List.length_take]; omega
  have hgx : ∀ (q : Nat) (u : Value), xs[q]? = some u → cur.toList[q]? = some u := fun q u hu => by
    have : (cur.toList.take (n * 1))[q]? = some u := by rw [htk]; exact hu
    rw [List.getElem?_take] at this
    split at this
    · exact this
    · cases this
  have hgd : w.drew.heap[g]? = some (.cells cur 74 (0, 0)) := hg
  have hov : ∀ lb cb, (callFunc 106 #[.slice (some ⟨vb, 0, none⟩) 1 1, .slice (some ⟨g, (i + 1) * 1, none⟩) lb cb]).run Tryz.prog w = .ok (.value (.bool false)) w := fun lb cb => by
    rw [run_callFunc_extern Tryz.func106 (by kernel_rfl) (by kernel_rfl) (by kernel_rfl) (e := Extern.SlicesOverlaps.overlaps #[76, 76] #[4]) (by kernel_rfl),
      Lib.run_overlaps_apart w 76 4 74 Tryz.underlying76 1 Tryz.sizeOf74 ⟨vb, 0, none⟩ ⟨g, (i + 1) * 1, none⟩ 1 1 lb cb hne 74 74 ys.toArray.size cur.size (by simp [World.shape?, hvb]) (by simp [World.shape?, hg]) (by rw [hcs]; omega) (block_frozen hvb _) (block_frozen hvb _)]
    rfl
  have hdl : (xs.drop (i * 1)).length = (n - i) * 1 := by rw [List.length_drop, hxl]; omega
  obtain ⟨W1, hW1⟩ : ∃ W1, W1 = w.drew.setCells g ((i + 1) * 1) (xs.drop (i * 1)) := ⟨_, rfl⟩
  obtain ⟨C1, b1, s1, l1⟩ := setCells_at g 74 (0, 0) (xs.drop (i * 1)) ((i + 1) * 1) w.drew cur hgd (by rw [hdl, hcs]; omega)
  rw [← hW1] at b1
  have f1 : Fr w W1 (fun k => k = g) := by rw [hW1]; exact (Fr.drew w _).two (setCells_fr _ _ _ _)
  have hcp1 : ∀ ty dc sc, (Builtin.copy_ #[76, 76] ty #[.slice (some ⟨g, (i + 1) * 1, none⟩) (n + 1 - (i + 1)) dc, .slice (some ⟨g, i * 1, none⟩) (n + 1 - i) sc]).run Tryz.prog w.drew = .ok (goInt (Nat.min (n + 1 - i) (n + 1 - (i + 1)))) W1 := fun ty dc sc => by
    rw [hW1]
    exact run_copyK w.drew ty _ _ _ _ _ _ _ (xs.drop (i * 1)) (by rw [hdl, show Nat.min (n + 1 - i) (n + 1 - (i + 1)) = n - i from by rw [show n + 1 - (i + 1) = n - i by omega]; exact Nat.min_eq_right (by omega)]) (fun j u hu => by
      rw [Addr.add_mid, block_cell hgd]
      rw [List.getElem?_drop] at hu
      exact hgx _ u hu) (fun j hj => by rw [hdl] at hj; rw [block_cell hgd, List.getElem?_eq_getElem (by rw [hcl]; omega)]; rfl) (fun j _ => block_frozen hgd _) (fun u hu => h1 u (List.mem_of_mem_drop hu))
  obtain ⟨W2, hW2⟩ : ∃ W2, W2 = W1.setCells g (i * 1) ys := ⟨_, rfl⟩
  obtain ⟨C2, b2, s2, l2⟩ := setCells_at g 74 (0, 0) ys (i * 1) W1 C1 b1 (by rw [hyl, s1, hcs]; omega)
  rw [← hW2] at b2
  have f2 : Fr W1 W2 (fun k => k = g) := by rw [hW2]; exact setCells_fr _ _ _ _
  have hcp2 : ∀ ty dc, (Builtin.copy_ #[76, 76] ty #[.slice (some ⟨g, i * 1, none⟩) (n + 1 - i) dc, .slice (some ⟨vb, 0, none⟩) 1 1]).run Tryz.prog W1 = .ok (goInt (Nat.min 1 (n + 1 - i))) W2 := fun ty dc => by
    rw [hW2]
    exact run_copyK W1 ty _ _ _ _ _ _ _ ys (by rw [hyl, show Nat.min 1 (n + 1 - i) = 1 from Nat.min_eq_left (by omega)]) (fun j u hu => by
      rw [Addr.add_mid, Nat.zero_add]
      exact f1.cell hne (by rw [block_cell hvb]; simpa using hu)) (fun j hj => by rw [hyl] at hj; rw [block_cell b1, List.getElem?_eq_getElem (by simp; rw [s1, hcs]; omega)]; rfl) (fun j _ => block_frozen b1 _) hy1
  have hti2 : (xs.take (i * 1)).length = i * 1 := by rw [List.length_take]; omega
  have hct : cur.toList.take (i * 1) = xs.take (i * 1) := by rw [← htk, List.take_take, Nat.min_eq_left (by omega)]
  have hrow : W2.ownsRow 0 74 1 (.slice (some ⟨g, 0, none⟩) (n + 1) cap) (n + 1) (xs.take (i * 1) ++ ys ++ xs.drop (i * 1)) := by
    refine ⟨by rw [List.length_append, List.length_append, hti2, hyl, hdl]; omega, .inr ⟨g, cap, C2, rfl, Nat.zero_le _, b2, hroom, hcm, by rw [s2, s1, hcs], ?_⟩⟩
    have e1 : C1.toList.take (i * 1) = xs.take (i * 1) := by
      rw [l1, List.append_assoc, List.take_append, List.take_take, Nat.min_eq_left (by omega), hct, show i * 1 - (cur.toList.take ((i + 1) * 1)).length = 0 by rw [List.length_take]; omega]
      simp
    have e2 : C1.toList.drop (i * 1 + ys.length) = xs.drop (i * 1) ++ cur.toList.drop ((i + 1) * 1 + (xs.drop (i * 1)).length) := by
      have ht : (cur.toList.take ((i + 1) * 1)).length = i * 1 + ys.length := by rw [List.length_take, hyl]; omega
      rw [l1, List.append_assoc, ← ht, List.drop_left]
    rw [l2, e1, e2, ← List.append_assoc]
    exact take_app (by rw [List.length_append, List.length_append, hti2, hyl, hdl]; omega)
  have hfrx : Fr w W2 (fun k => (Value.slice (some ⟨g, 0, none⟩) n cap).ownBlock = some k) := (f1.two f2).mono (fun k hk h => by
    have h' : k = g := h
    rw [h']; rfl)
  have HRES : Hid (InsK w (.slice (some ⟨g, 0, none⟩) n cap) n i xs ys (.returned (.slice (some ⟨g, 0, none⟩) (n + 1) cap)) W2) := hide ⟨_, rfl, hrow, .inl rfl, hfrx⟩
  obtain ⟨n1, hn1⟩ : ∃ n1, n1 = n + 1 := ⟨_, rfl⟩
  obtain ⟨i1, hi1⟩ : ∃ i1, i1 = i + 1 := ⟨_, rfl⟩
  rw [← hn1] at HRES hcp2
  rw [← hn1, ← hi1] at hcp1
  rw [← hi1] at hov
  have hi1i : (i : Int) + 1 = (i1 : Int) := by omega
  have hn1i : (n : Int) + 1 = (n1 : Int) := by omega
  have hz2 : ¬ ((i : Int) = (n : Int)) := by omega
  have hz2b : ((i : Int) == (n : Int)) = false := by simp; omega
  have hz3 : ¬ ((cap : Int) < (n1 : Int)) := by omega
  have hz3b : decide ((n1 : Int) > (cap : Int)) = false := by simp; omega
  have hz3c : (n1 : Int) ≤ (cap : Int) := by omega
  have hci : ¬ (cap = i) := by omega
  have hci1 : ¬ (cap = i1) := by omega
  have hin : i ≤ n := by omega
  have hi1n : i1 ≤ n1 := by omega
  have hinn : i ≤ n1 := by omega
  have hnc : n1 ≤ cap := by omega
  have hic : i ≤ cap := by omega
  have hi1c : i1 ≤ cap := by omega
  have hn1b : n1 ≤ 1048577 := by omega
  have hi1b : i1 ≤ 1048577 := by omega
  have hGm : cap ≤ 9223372036854775807 := by unfold maxLen at hcm; omega
  have hw1 : IntKind.i64.wrap (n1 : Int) = (n1 : Int) := by rw [IntKind.wrap_i64]; omega
  have hw2 : IntKind.i64.wrap (i1 : Int) = (i1 : Int) := by rw [IntKind.wrap_i64]; omega
  clear hcl hxl hgx hgd hdl hW1 b1 s1 l1 f1 hW2 b2 s2 l2 f2 hti2 hct hrow hfrx hn1 hi1 hg hcm hcs htk h1 hvb hyl hy1 hroom hne
  simp only [Nat.mul_one] at hcp1 hcp2 hov
  go_enter Tryz.func90, Tryz.ntmps90
  go_wp2_with (simp only [hov])
  refine wp_region_K (fun z => decide (z < 8)) (fun U : World => U = w.drew) (by kernel_rfl) ?_
  have hS : (fun U : World => U = w.drew) w.drew := rfl
  refine wpAnyK_takeTo 0 (some 69) (.slice (some ⟨g, 0, none⟩) n1 cap) [4, 8] rfl rfl (by kernel_rfl) (by kernel_rfl) (by kernel_rfl) (by kernel_rfl) (fun _ _ _ h => h) hS (Or.inl ⟨rfl, fun w1 hw1 => by go_simp⟩) ?_
  simp only [Act.put, List.setIfInBounds_toArray, List.set_cons_zero, List.set_cons_succ]
  refine wpAnyK_takeTo 1 (some 70) (.int .i64 (i : Int)) [3, 4, 8] rfl rfl (by kernel_rfl) (by kernel_rfl) (by kernel_rfl) (by kernel_rfl) (fun _ _ _ h => h) hS (Or.inl ⟨rfl, fun w1 hw1 => by go_simp⟩) ?_
  simp only [Act.put, List.setIfInBounds_toArray, List.set_cons_zero, List.set_cons_succ]
  refine wpAnyK_takeTo 2 (some 71) (.int .i64 1) [3, 4, 8] rfl rfl (by kernel_rfl) (by kernel_rfl) (by kernel_rfl) (by kernel_rfl) (fun _ _ _ h => h) hS (Or.inl ⟨rfl, fun w1 hw1 => by go_simp⟩) ?_
  simp only [Act.put, List.setIfInBounds_toArray, List.set_cons_zero, List.set_cons_succ]
  refine wpAnyK_takeTo 3 (some 72) (.int .i64 (i1 : Int)) [4, 8] rfl rfl (by kernel_rfl) (by kernel_rfl) (by kernel_rfl) (by kernel_rfl) (fun _ _ _ h => h) hS (Or.inl ⟨rfl, fun w1 hw1 => by go_simp⟩) ?_
  simp only [Act.put, List.setIfInBounds_toArray, List.set_cons_zero, List.set_cons_succ]
  refine wpAnyK_takeTo 4 (some 73) (.slice (some ⟨g, i1, none⟩) (n1 - i1) (cap - i1)) [8] rfl rfl (by kernel_rfl) (by kernel_rfl) (by kernel_rfl) (by kernel_rfl) (fun _ _ _ h => h) hS (Or.inl ⟨rfl, fun w1 hw1 => by go_simp⟩) ?_
  simp only [Act.put, List.setIfInBounds_toArray, List.set_cons_zero, List.set_cons_succ]
  refine wpAnyK_takeTo 5 (some 74) (.slice (some ⟨g, 0, none⟩) n1 cap) [7, 8] rfl rfl (by kernel_rfl) (by kernel_rfl) (by kernel_rfl) (by kernel_rfl) (fun _ _ _ h => h) hS (Or.inl ⟨rfl, fun w1 hw1 => by go_simp⟩) ?_
  simp only [Act.put, List.setIfInBounds_toArray, List.set_cons_zero, List.set_cons_succ]
  refine wpAnyK_takeTo 6 (some 75) (.int .i64 (i : Int)) [7, 8] rfl rfl (by kernel_rfl) (by kernel_rfl) (by kernel_rfl) (by kernel_rfl) (fun _ _ _ h => h) hS (Or.inl ⟨rfl, fun w1 hw1 => by go_simp⟩) ?_
  simp only [Act.put, List.setIfInBounds_toArray, List.set_cons_zero, List.set_cons_succ]
  refine wpAnyK_takeTo 7 (some 76) (.slice (some ⟨g, i, none⟩) (n1 - i) (cap - i)) [8] rfl rfl (by kernel_rfl) (by kernel_rfl) (by kernel_rfl) (by kernel_rfl) (fun _ _ _ h => h) hS (Or.inl ⟨rfl, fun w1 hw1 => by go_simp⟩) ?_
  simp only [Act.put, List.setIfInBounds_toArray, List.set_cons_zero, List.set_cons_succ]
  refine wpAnyK_one (i := 8) (by kernel_rfl) rfl rfl ?_
  refine wp_copy_to (.tmp 73) (.tmp 76) 76 rfl _ rfl _ rfl _ _ rfl rfl _ _ (hcp1 _ _ _) ⟨fun h => by simp at h, ?_⟩
  simp only [Act.put, List.setIfInBounds_toArray, List.set_cons_zero, List.set_cons_succ]
  refine wpAnyK_done (by kernel_rfl) ?_ _
  clear hS hcp1
  go_wp2_with (refine wpList_plain rfl fun _ hK => wp_copy_to (.tmp 80) (.tmp 81) 76 rfl _ rfl _ rfl _ _ rfl rfl _ _ (hcp2 _ _) (hK _ _ ?_); clear hK)
  go_ret
  exact HRES.out
theorem insertK {w : World} (v : Value) (n : Nat) (xs : List Value) (hr : w.ownsRow 0 74 1 v n xs) (h1 : ∀ u ∈ xs, u.oneCell' = true) (hb : n ≤ 1048576) (i : Nat) (hi : i ≤ n) (vb : Nat) (ys : List Value) (hvb : w.heap[vb]? = some (.cells ys.toArray 74 (0, 0))) (hyl : ys.length = 1) (hy1 : ∀ u ∈ ys, u.oneCell' = true) (hne : v.ownBlock ≠ some vb) : Calls Tryz.prog 90 #[v, .int .i64 (i : Int), .slice (some ⟨vb, 0, none⟩) 1 1] w (InsK w v n i xs ys) := by
  rcases Nat.lt_or_ge i n with h | h
  · rcases hr.2 with ⟨rfl, h0⟩ | ⟨g, cap, cur, rfl, _, hg, hnc, hcm, hcs, htk⟩
    · omega
    · rcases Nat.lt_or_ge cap (n + 1) with h2 | h2
      · exact insert_growK g n cap cur xs hg hnc hcs htk h1 hb i h h2 vb ys hvb hyl hy1
      · exact insert_shiftK g n cap cur xs hg hcm hcs htk h1 hb i h h2 vb ys hvb hyl hy1 (fun e => hne (by rw [e]; rfl))
  · obtain rfl : i = n := by omega
    exact insert_endK v i xs hr hb vb ys hvb hyl hy1
end Go.Proofs.YtigkinakhijfoaaGreat
