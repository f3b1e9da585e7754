/- One step of PstreePlays. -/
import Derived.Test.YtklnaeldhdhmiaaX6
namespace Go.Proofs.Ytklnaeldhdhmiaa
open Go.RowKit Go.Sort
set_option maxRecDepth 100000
set_option linter.unusedVariables false
set_option linter.unusedSimpArgs false

def BoxO (w : World) (g : Nat) (k : Int) (p : Pt) (lo hi le : Int) : Prop := w.heap[g]? = some (.cells #[.int .i64 k, .int .i64 p.x, .int .i64 p.y, .int .i64 p.id, .int .i64 lo, .int .i64 hi, .int .i64 le] 30 (0, 0))
theorem BoxO.fr {w w' : World} {X : Nat → Prop} {g : Nat} {k : Int} {p : Pt} {lo hi le : Int} (h : BoxO w g k p lo hi le) (hf : Fr w w' X) (hx : ¬ X g) : BoxO w' g k p lo hi le := by
  unfold BoxO at *
  rw [hf.block g (Array.getElem?_eq_some_iff.1 h).1 hx]
  exact h
theorem BoxO.cells {w : World} {g : Nat} {k : Int} {p : Pt} {lo hi le : Int} (h : BoxO w g k p lo hi le) : w.cell? ⟨g, 0, none⟩ = some (.int .i64 k) ∧ w.cell? ⟨g, 1, none⟩ = some (.int .i64 p.x) ∧ w.cell? ⟨g, 2, none⟩ = some (.int .i64 p.y) ∧ w.cell? ⟨g, 3, none⟩ = some (.int .i64 p.id) ∧ w.cell? ⟨g, 4, none⟩ = some (.int .i64 lo) ∧ w.cell? ⟨g, 5, none⟩ = some (.int .i64 hi) ∧ w.cell? ⟨g, 6, none⟩ = some (.int .i64 le) :=
  ⟨(cell_of_row _ _ _ _ _ _ h).trans rfl, (cell_of_row _ _ _ _ _ _ h).trans rfl, (cell_of_row _ _ _ _ _ _ h).trans rfl, (cell_of_row _ _ _ _ _ _ h).trans rfl, (cell_of_row _ _ _ _ _ _ h).trans rfl, (cell_of_row _ _ _ _ _ _ h).trans rfl, (cell_of_row _ _ _ _ _ _ h).trans rfl⟩
def StepPost (w : World) (bs gt n : Nat) (L : List Pt) (p : Pt) (e : Ending) (W' : World) : Prop := ∃ (v' : Value) (L' : List Pt), e = .returned (.tuple #[v', .bool true]) ∧ PS w bs gt v' L' L' W' ∧ L'.length ≤ n + 1 ∧ ∀ q ∈ L', q ∈ L ∨ q = p
set_option maxHeartbeats 8000000 in
theorem step_add {w W : World} {bs gt : Nat} {a : Option Addr} {n c : Nat} {L : List Pt} (h : PS w bs gt (.slice a n c) L L W) (hn : L.length = n) (hnb : n ≤ 1048576) (k : Int) (p : Pt) (lo hi le : Int) (hid : In64 p.id) (hk : k = 0) : Calls Try.prog 9 #[.pointer (some ⟨gt, 0, none⟩), .slice a n c, .agg #[.int .i64 k, .int .i64 p.x, .int .i64 p.y, .int .i64 p.id, .int .i64 lo, .int .i64 hi, .int .i64 le]] W fun e W' => StepPost w bs gt n L p e W' := by
  have HN := hide hn
  have HID := hide hid
  have b1 : BoxO (W.alloc (.cells #[.int .i64 k, .int .i64 p.x, .int .i64 p.y, .int .i64 p.id, .int .i64 lo, .int .i64 hi, .int .i64 le] 30)) W.heap.size k p lo hi le := heap_alloc_new W _
  have hz : (W.alloc (.cells #[.int .i64 k, .int .i64 p.x, .int .i64 p.y, .int .i64 p.id, .int .i64 lo, .int .i64 hi, .int .i64 le] 30)).heap.size = W.heap.size + 1 := by simp
  obtain ⟨W2, hW2⟩ : ∃ W2, W2 = (W.alloc (.cells #[.int .i64 k, .int .i64 p.x, .int .i64 p.y, .int .i64 p.id, .int .i64 lo, .int .i64 hi, .int .i64 le] 30)).alloc (.cells #[.int .i64 p.x, .int .i64 p.y, .int .i64 p.id] 56) := ⟨_, rfl⟩
  have HB : Hid (BoxO W2 W.heap.size k p lo hi le ∧ BoxR W2 (W.heap.size + 1) p ∧ Fr W W2 (fun _ => False)) := hide (by
    have F2 := Fr.alloc (W.alloc (.cells #[.int .i64 k, .int .i64 p.x, .int .i64 p.y, .int .i64 p.id, .int .i64 lo, .int .i64 hi, .int .i64 le] 30)) (.cells #[.int .i64 p.x, .int .i64 p.y, .int .i64 p.id] 56) (fun _ => False)
    have b2 := heap_alloc_new (W.alloc (.cells #[.int .i64 k, .int .i64 p.x, .int .i64 p.y, .int .i64 p.id, .int .i64 lo, .int .i64 hi, .int .i64 le] 30)) (.cells #[.int .i64 p.x, .int .i64 p.y, .int .i64 p.id] 56)
    rw [hz] at b2
    rw [hW2]
    exact ⟨b1.fr F2 (fun h => h), b2, (Fr.alloc W _ (fun _ => False)).two F2⟩)
  have HP := hide (h.fr HB.out.2.2)
  obtain ⟨_, x1, x2, x3, _⟩ := b1.cells
  obtain ⟨y0, y1, y2, y3, y4, y5, y6⟩ := HB.out.1.cells
  obtain ⟨z0, z1, z2⟩ := HB.out.2.1.pt
  have HW2 := hide hW2
  clear b1 hz hW2 h hn hid
  subst hk
  have HA := hide (addR_any HP.out.own HN.out hnb p)
  unfold Pt.agg at HA
  go_enter Try.func9, Try.ntmps9
  go_wp2_with (rw [← HW2.out])
  refine HA.out.mono ?_
  rintro e V (⟨⟨q, hq, hqi⟩, rfl, fV⟩ | ⟨hno, v1, rfl, hg⟩)
  · have HC := hide ((HP.out.fr fV).has p q HID.out hq hqi)
    unfold Pt.agg at HC
    obtain ⟨u0, u1, u2, u3, u4, u5, u6⟩ := (HB.out.1.fr fV (fun h => h)).cells
    clear y0 y1 y2 y3 y4 y5 y6 z0 z1 z2 x1 x2 x3 HA hq hqi fV
    go_wp2_with fail
    refine HC.out.mono ?_
    rintro e V2 ⟨rfl, hp⟩
    have HE := hide hp
    clear hp u0 u1 u2 u3 u4 u5 u6
    go_wp2
    go_ret2
    exact ⟨_, L, rfl, HE.out, by have := HN.out; omega, fun q hq => .inl hq⟩
  · have HC := hide (PS.add (p := p) (HP.out.row hg (insR_sorted p HP.out.sorted hno)) HID.out hno (by have := HN.out; omega))
    unfold Pt.agg at HC
    obtain ⟨u0, u1, u2, u3, u4, u5, u6⟩ := (HB.out.1.fr hg.2.1 (fun h => h)).cells
    clear y0 y1 y2 y3 y4 y5 y6 z0 z1 z2 x1 x2 x3 HA hno hg
    go_wp2_with fail
    refine HC.out.mono ?_
    rintro e V2 ⟨rfl, hp⟩
    have HE := hide hp
    clear hp u0 u1 u2 u3 u4 u5 u6
    go_wp2
    go_ret2
    exact ⟨_, _, rfl, HE.out, by rw [(insR_perm p L).length_eq]; have := HN.out; simp; omega, fun q hq => by rcases List.mem_cons.1 ((insR_perm p L).mem_iff.1 hq) with h | h; exact .inr h; exact .inl h⟩
theorem less_all {L : List Pt} {id : Int} (h : (lessP id L).length = L.length) : ∀ q ∈ L, q.id ≠ id := by
  unfold lessP at h
  have := List.length_filter_eq_length_iff.1 h
  intro q hq
  simpa using this q hq
theorem less_some {L : List Pt} {id : Int} (h : ¬ (lessP id L).length = L.length) : ∃ q ∈ L, q.id = id := by
  refine Classical.byContradiction fun hno => h ?_
  rw [lessP_none (fun q hq e => hno ⟨q, hq, e⟩)]
set_option maxHeartbeats 8000000 in
theorem step_cut {w W : World} {bs gt : Nat} {a : Option Addr} {n c : Nat} {L : List Pt} (h : PS w bs gt (.slice a n c) L L W) (hn : L.length = n) (hnb : n ≤ 1048576) (k : Int) (p : Pt) (lo hi le : Int) (hid : In64 p.id) (hk : k = 1) : Calls Try.prog 9 #[.pointer (some ⟨gt, 0, none⟩), .slice a n c, .agg #[.int .i64 k, .int .i64 p.x, .int .i64 p.y, .int .i64 p.id, .int .i64 lo, .int .i64 hi, .int .i64 le]] W fun e W' => StepPost w bs gt n L p e W' := by
  have HN := hide hn
  have HID := hide hid
  have b1 : BoxO (W.alloc (.cells #[.int .i64 k, .int .i64 p.x, .int .i64 p.y, .int .i64 p.id, .int .i64 lo, .int .i64 hi, .int .i64 le] 30)) W.heap.size k p lo hi le := heap_alloc_new W _
  have hz : (W.alloc (.cells #[.int .i64 k, .int .i64 p.x, .int .i64 p.y, .int .i64 p.id, .int .i64 lo, .int .i64 hi, .int .i64 le] 30)).heap.size = W.heap.size + 1 := by simp
  obtain ⟨W2, hW2⟩ : ∃ W2, W2 = (W.alloc (.cells #[.int .i64 k, .int .i64 p.x, .int .i64 p.y, .int .i64 p.id, .int .i64 lo, .int .i64 hi, .int .i64 le] 30)).alloc (.cells #[.int .i64 p.x, .int .i64 p.y, .int .i64 p.id] 56) := ⟨_, rfl⟩
  have HB : Hid (BoxO W2 W.heap.size k p lo hi le ∧ BoxR W2 (W.heap.size + 1) p ∧ Fr W W2 (fun _ => False)) := hide (by
    have F2 := Fr.alloc (W.alloc (.cells #[.int .i64 k, .int .i64 p.x, .int .i64 p.y, .int .i64 p.id, .int .i64 lo, .int .i64 hi, .int .i64 le] 30)) (.cells #[.int .i64 p.x, .int .i64 p.y, .int .i64 p.id] 56) (fun _ => False)
    have b2 := heap_alloc_new (W.alloc (.cells #[.int .i64 k, .int .i64 p.x, .int .i64 p.y, .int .i64 p.id, .int .i64 lo, .int .i64 hi, .int .i64 le] 30)) (.cells #[.int .i64 p.x, .int .i64 p.y, .int .i64 p.id] 56)
    rw [hz] at b2
    rw [hW2]
    exact ⟨b1.fr F2 (fun h => h), b2, (Fr.alloc W _ (fun _ => False)).two F2⟩)
  have HP := hide (h.fr HB.out.2.2)
  obtain ⟨_, x1, x2, x3, _⟩ := b1.cells
  obtain ⟨y0, y1, y2, y3, y4, y5, y6⟩ := HB.out.1.cells
  obtain ⟨z0, z1, z2⟩ := HB.out.2.1.pt
  have HW2 := hide hW2
  clear b1 hz hW2 h hn hid
  subst hk
  have HA := hide (cutR_any HP.out.own HN.out hnb p.id)
  go_enter Try.func9, Try.ntmps9
  go_wp2_with (rw [← HW2.out])
  refine HA.out.mono ?_
  rintro e V (⟨hl, rfl, fV⟩ | ⟨hl, v1, rfl, hg⟩)
  · have HC := hide ((HP.out.fr fV).cutNo p.id HID.out (less_all (hl.trans HN.out.symm)))
    obtain ⟨u0, u1, u2⟩ := (HB.out.2.1.fr fV (fun h => h)).pt
    clear y0 y1 y2 y3 y4 y5 y6 z0 z1 z2 x1 x2 x3 HA hl fV
    go_wp2_with fail
    refine HC.out.mono ?_
    rintro e V2 ⟨rfl, hp⟩
    have HE := hide hp
    clear hp u0 u1 u2
    go_wp2
    go_ret2
    exact ⟨_, L, rfl, HE.out, by have := HN.out; omega, fun q hq => .inl hq⟩
  · obtain ⟨y, hy, hyi⟩ := less_some (fun h => hl (h.trans HN.out))
    have HC := hide (PS.cut y (HP.out.row (by rw [hyi]; exact hg) (HP.out.sorted.sublist List.filter_sublist)) (by rw [hyi]; exact HID.out) hy (by have := HN.out; omega))
    rw [hyi] at HC
    obtain ⟨u0, u1, u2⟩ := (HB.out.2.1.fr hg.2.1 (fun h => h)).pt
    clear y0 y1 y2 y3 y4 y5 y6 z0 z1 z2 x1 x2 x3 HA hl hg hy hyi
    go_wp2_with fail
    refine HC.out.mono ?_
    rintro e V2 ⟨rfl, hp⟩
    have HE := hide hp
    clear hp u0 u1 u2
    go_wp2
    go_ret2
    exact ⟨_, _, rfl, HE.out, by have h1 := List.length_filter_le (fun q : Pt => decide (q.id ≠ p.id)) L; unfold lessP; have := HN.out; omega, fun q hq => .inl (List.mem_filter.1 hq).1⟩
set_option maxHeartbeats 8000000 in
theorem step_find {w W : World} {bs gt : Nat} {a : Option Addr} {n c : Nat} {L : List Pt} (h : PS w bs gt (.slice a n c) L L W) (hn : L.length = n) (hnb : n ≤ 1048576) (k : Int) (p : Pt) (lo hi le : Int) (hid : In64 p.id) (hk : k = 2) : Calls Try.prog 9 #[.pointer (some ⟨gt, 0, none⟩), .slice a n c, .agg #[.int .i64 k, .int .i64 p.x, .int .i64 p.y, .int .i64 p.id, .int .i64 lo, .int .i64 hi, .int .i64 le]] W fun e W' => StepPost w bs gt n L p e W' := by
  have HN := hide hn
  have HID := hide hid
  have b1 : BoxO (W.alloc (.cells #[.int .i64 k, .int .i64 p.x, .int .i64 p.y, .int .i64 p.id, .int .i64 lo, .int .i64 hi, .int .i64 le] 30)) W.heap.size k p lo hi le := heap_alloc_new W _
  have hz : (W.alloc (.cells #[.int .i64 k, .int .i64 p.x, .int .i64 p.y, .int .i64 p.id, .int .i64 lo, .int .i64 hi, .int .i64 le] 30)).heap.size = W.heap.size + 1 := by simp
  obtain ⟨W2, hW2⟩ : ∃ W2, W2 = (W.alloc (.cells #[.int .i64 k, .int .i64 p.x, .int .i64 p.y, .int .i64 p.id, .int .i64 lo, .int .i64 hi, .int .i64 le] 30)).alloc (.cells #[.int .i64 p.x, .int .i64 p.y, .int .i64 p.id] 56) := ⟨_, rfl⟩
  have HB : Hid (BoxO W2 W.heap.size k p lo hi le ∧ BoxR W2 (W.heap.size + 1) p ∧ Fr W W2 (fun _ => False)) := hide (by
    have F2 := Fr.alloc (W.alloc (.cells #[.int .i64 k, .int .i64 p.x, .int .i64 p.y, .int .i64 p.id, .int .i64 lo, .int .i64 hi, .int .i64 le] 30)) (.cells #[.int .i64 p.x, .int .i64 p.y, .int .i64 p.id] 56) (fun _ => False)
    have b2 := heap_alloc_new (W.alloc (.cells #[.int .i64 k, .int .i64 p.x, .int .i64 p.y, .int .i64 p.id, .int .i64 lo, .int .i64 hi, .int .i64 le] 30)) (.cells #[.int .i64 p.x, .int .i64 p.y, .int .i64 p.id] 56)
    rw [hz] at b2
    rw [hW2]
    exact ⟨b1.fr F2 (fun h => h), b2, (Fr.alloc W _ (fun _ => False)).two F2⟩)
  have HP := hide (h.fr HB.out.2.2)
  obtain ⟨_, x1, x2, x3, _⟩ := b1.cells
  obtain ⟨y0, y1, y2, y3, y4, y5, y6⟩ := HB.out.1.cells
  obtain ⟨z0, z1, z2⟩ := HB.out.2.1.pt
  have HW2 := hide hW2
  clear b1 hz hW2 h hn hid
  subst hk
  go_enter Try.func9, Try.ntmps9
  go_wp2_with (rw [← HW2.out])
  refine wp_region_K (fun _ => true) (fun U : World => Fr W2.drew U (fun _ => False)) (by kernel_rfl) ?_
  have fD := Fr.drew W2 (fun _ => False)
  have HP2 := hide (HP.out.fr fD)
  have hbd := HB.out.1.fr fD (fun h => h)
  generalize W2.drew = U at *
  obtain ⟨_, _, _, _, u4, u5, u6⟩ := hbd.cells
  have hS : (fun V : World => Fr U V (fun _ => False)) U := Fr.refl _ _
  clear y0 y1 y2 y3 y4 y5 y6 z0 z1 z2 x1 x2 x3 hbd fD
  generalize W.heap.size = g5 at *
  refine wpAnyK_takeTo 0 (some 62) (.slice a n c) [18, 19] rfl rfl (by kernel_rfl) (by kernel_rfl) (by kernel_rfl) (by kernel_rfl) (fun _ _ _ h => h) hS (Or.inl ⟨rfl, fun w1 hw1 => by have hw1 : Fr U w1 (fun _ => False) := hw1; have s4 := hw1.cell' (fun h => h) u4; have s5 := hw1.cell' (fun h => h) u5; have s6 := hw1.cell' (fun h => h) u6; go_simp⟩) ?_
  simp only [Act.put, List.setIfInBounds_toArray, List.set_cons_zero, List.set_cons_succ]
  refine wpAnyK_takeTo 1 (some 63) (.pointer (some ⟨gt, 0, none⟩)) [8, 16, 17, 18, 19] rfl rfl (by kernel_rfl) (by kernel_rfl) (by kernel_rfl) (by kernel_rfl) (fun _ _ _ h => h) hS (Or.inl ⟨rfl, fun w1 hw1 => by have hw1 : Fr U w1 (fun _ => False) := hw1; have s4 := hw1.cell' (fun h => h) u4; have s5 := hw1.cell' (fun h => h) u5; have s6 := hw1.cell' (fun h => h) u6; go_simp⟩) ?_
  simp only [Act.put, List.setIfInBounds_toArray, List.set_cons_zero, List.set_cons_succ]
  refine wpAnyK_takeTo 2 (some 64) (.pointer (some ⟨g5, 4, none⟩)) [3, 8, 16, 17, 18, 19] rfl rfl (by kernel_rfl) (by kernel_rfl) (by kernel_rfl) (by kernel_rfl) (fun _ _ _ h => h) hS (Or.inl ⟨rfl, fun w1 hw1 => by have hw1 : Fr U w1 (fun _ => False) := hw1; have s4 := hw1.cell' (fun h => h) u4; have s5 := hw1.cell' (fun h => h) u5; have s6 := hw1.cell' (fun h => h) u6; go_simp⟩) ?_
  simp only [Act.put, List.setIfInBounds_toArray, List.set_cons_zero, List.set_cons_succ]
  refine wpAnyK_takeTo 3 (some 65) (.int .i64 lo) [8, 16, 17, 18, 19] rfl rfl (by kernel_rfl) (by kernel_rfl) (by kernel_rfl) (by kernel_rfl) (fun _ _ _ h => h) hS (Or.inl ⟨rfl, fun w1 hw1 => by have hw1 : Fr U w1 (fun _ => False) := hw1; have s4 := hw1.cell' (fun h => h) u4; have s5 := hw1.cell' (fun h => h) u5; have s6 := hw1.cell' (fun h => h) u6; go_simp⟩) ?_
  simp only [Act.put, List.setIfInBounds_toArray, List.set_cons_zero, List.set_cons_succ]
  refine wpAnyK_takeTo 4 (some 66) (.pointer (some ⟨g5, 5, none⟩)) [5, 8, 16, 17, 18, 19] rfl rfl (by kernel_rfl) (by kernel_rfl) (by kernel_rfl) (by kernel_rfl) (fun _ _ _ h => h) hS (Or.inl ⟨rfl, fun w1 hw1 => by have hw1 : Fr U w1 (fun _ => False) := hw1; have s4 := hw1.cell' (fun h => h) u4; have s5 := hw1.cell' (fun h => h) u5; have s6 := hw1.cell' (fun h => h) u6; go_simp⟩) ?_
  simp only [Act.put, List.setIfInBounds_toArray, List.set_cons_zero, List.set_cons_succ]
  refine wpAnyK_takeTo 5 (some 67) (.int .i64 hi) [8, 16, 17, 18, 19] rfl rfl (by kernel_rfl) (by kernel_rfl) (by kernel_rfl) (by kernel_rfl) (fun _ _ _ h => h) hS (Or.inl ⟨rfl, fun w1 hw1 => by have hw1 : Fr U w1 (fun _ => False) := hw1; have s4 := hw1.cell' (fun h => h) u4; have s5 := hw1.cell' (fun h => h) u5; have s6 := hw1.cell' (fun h => h) u6; go_simp⟩) ?_
  simp only [Act.put, List.setIfInBounds_toArray, List.set_cons_zero, List.set_cons_succ]
  refine wpAnyK_takeTo 6 (some 68) (.pointer (some ⟨g5, 6, none⟩)) [7, 8, 16, 17, 18, 19] rfl rfl (by kernel_rfl) (by kernel_rfl) (by kernel_rfl) (by kernel_rfl) (fun _ _ _ h => h) hS (Or.inl ⟨rfl, fun w1 hw1 => by have hw1 : Fr U w1 (fun _ => False) := hw1; have s4 := hw1.cell' (fun h => h) u4; have s5 := hw1.cell' (fun h => h) u5; have s6 := hw1.cell' (fun h => h) u6; go_simp⟩) ?_
  simp only [Act.put, List.setIfInBounds_toArray, List.set_cons_zero, List.set_cons_succ]
  refine wpAnyK_takeTo 7 (some 69) (.int .i64 le) [8, 16, 17, 18, 19] rfl rfl (by kernel_rfl) (by kernel_rfl) (by kernel_rfl) (by kernel_rfl) (fun _ _ _ h => h) hS (Or.inl ⟨rfl, fun w1 hw1 => by have hw1 : Fr U w1 (fun _ => False) := hw1; have s4 := hw1.cell' (fun h => h) u4; have s5 := hw1.cell' (fun h => h) u5; have s6 := hw1.cell' (fun h => h) u6; go_simp⟩) ?_
  simp only [Act.put, List.setIfInBounds_toArray, List.set_cons_zero, List.set_cons_succ]
  refine wpAnyK_takeTo 9 (some 71) (.slice a n c) [16, 17, 18, 19] rfl rfl (by kernel_rfl) (by kernel_rfl) (by kernel_rfl) (by kernel_rfl) (fun _ _ _ h => h) hS (Or.inl ⟨rfl, fun w1 hw1 => by have hw1 : Fr U w1 (fun _ => False) := hw1; have s4 := hw1.cell' (fun h => h) u4; have s5 := hw1.cell' (fun h => h) u5; have s6 := hw1.cell' (fun h => h) u6; go_simp⟩) ?_
  simp only [Act.put, List.setIfInBounds_toArray, List.set_cons_zero, List.set_cons_succ]
  refine wpAnyK_takeTo 10 (some 72) (.pointer (some ⟨g5, 4, none⟩)) [11, 16, 17, 18, 19] rfl rfl (by kernel_rfl) (by kernel_rfl) (by kernel_rfl) (by kernel_rfl) (fun _ _ _ h => h) hS (Or.inl ⟨rfl, fun w1 hw1 => by have hw1 : Fr U w1 (fun _ => False) := hw1; have s4 := hw1.cell' (fun h => h) u4; have s5 := hw1.cell' (fun h => h) u5; have s6 := hw1.cell' (fun h => h) u6; go_simp⟩) ?_
  simp only [Act.put, List.setIfInBounds_toArray, List.set_cons_zero, List.set_cons_succ]
  refine wpAnyK_takeTo 11 (some 73) (.int .i64 lo) [16, 17, 18, 19] rfl rfl (by kernel_rfl) (by kernel_rfl) (by kernel_rfl) (by kernel_rfl) (fun _ _ _ h => h) hS (Or.inl ⟨rfl, fun w1 hw1 => by have hw1 : Fr U w1 (fun _ => False) := hw1; have s4 := hw1.cell' (fun h => h) u4; have s5 := hw1.cell' (fun h => h) u5; have s6 := hw1.cell' (fun h => h) u6; go_simp⟩) ?_
  simp only [Act.put, List.setIfInBounds_toArray, List.set_cons_zero, List.set_cons_succ]
  refine wpAnyK_takeTo 12 (some 74) (.pointer (some ⟨g5, 5, none⟩)) [13, 16, 17, 18, 19] rfl rfl (by kernel_rfl) (by kernel_rfl) (by kernel_rfl) (by kernel_rfl) (fun _ _ _ h => h) hS (Or.inl ⟨rfl, fun w1 hw1 => by have hw1 : Fr U w1 (fun _ => False) := hw1; have s4 := hw1.cell' (fun h => h) u4; have s5 := hw1.cell' (fun h => h) u5; have s6 := hw1.cell' (fun h => h) u6; go_simp⟩) ?_
  simp only [Act.put, List.setIfInBounds_toArray, List.set_cons_zero, List.set_cons_succ]
  refine wpAnyK_takeTo 13 (some 75) (.int .i64 hi) [16, 17, 18, 19] rfl rfl (by kernel_rfl) (by kernel_rfl) (by kernel_rfl) (by kernel_rfl) (fun _ _ _ h => h) hS (Or.inl ⟨rfl, fun w1 hw1 => by have hw1 : Fr U w1 (fun _ => False) := hw1; have s4 := hw1.cell' (fun h => h) u4; have s5 := hw1.cell' (fun h => h) u5; have s6 := hw1.cell' (fun h => h) u6; go_simp⟩) ?_
  simp only [Act.put, List.setIfInBounds_toArray, List.set_cons_zero, List.set_cons_succ]
  refine wpAnyK_takeTo 14 (some 76) (.pointer (some ⟨g5, 6, none⟩)) [15, 16, 17, 18, 19] rfl rfl (by kernel_rfl) (by kernel_rfl) (by kernel_rfl) (by kernel_rfl) (fun _ _ _ h => h) hS (Or.inl ⟨rfl, fun w1 hw1 => by have hw1 : Fr U w1 (fun _ => False) := hw1; have s4 := hw1.cell' (fun h => h) u4; have s5 := hw1.cell' (fun h => h) u5; have s6 := hw1.cell' (fun h => h) u6; go_simp⟩) ?_
  simp only [Act.put, List.setIfInBounds_toArray, List.set_cons_zero, List.set_cons_succ]
  refine wpAnyK_takeTo 15 (some 77) (.int .i64 le) [16, 17, 18, 19] rfl rfl (by kernel_rfl) (by kernel_rfl) (by kernel_rfl) (by kernel_rfl) (fun _ _ _ h => h) hS (Or.inl ⟨rfl, fun w1 hw1 => by have hw1 : Fr U w1 (fun _ => False) := hw1; have s4 := hw1.cell' (fun h => h) u4; have s5 := hw1.cell' (fun h => h) u5; have s6 := hw1.cell' (fun h => h) u6; go_simp⟩) ?_
  simp only [Act.put, List.setIfInBounds_toArray, List.set_cons_zero, List.set_cons_succ]
  refine wpAnyK_one (i := 8) (by kernel_rfl) rfl rfl ?_
  refine wp_call_to (some 70) rfl 12 #[.pointer (some ⟨gt, 0, none⟩), .int .i64 lo, .int .i64 hi, .int .i64 le] (by go_simp) (HP2.out.find (by have := HN.out; omega) lo hi le) ?_
  rintro e U1 ⟨v1, rfl, o1, f1⟩
  obtain ⟨a1, c1, rfl⟩ := shape_n o1
  refine ⟨_, rfl, fun _ => f1, ?_⟩
  simp only [Act.put, List.setIfInBounds_toArray, List.set_cons_zero, List.set_cons_succ]
  refine wpAnyK_one (i := 16) (by kernel_rfl) rfl rfl ?_
  refine wp_call_to (some 78) rfl 18 #[.slice a n c, .int .i64 lo, .int .i64 hi, .int .i64 le] (by go_simp) (findR_any (HP2.out.own.fr f1 (fun _ _ h => h)) HN.out hnb lo hi le) ?_
  rintro e U2 ⟨v2, rfl, hg2⟩
  obtain ⟨a2, c2, rfl⟩ := shape_n hg2.1
  refine ⟨_, rfl, fun _ => f1.two hg2.2.1, ?_⟩
  simp only [Act.put, List.setIfInBounds_toArray, List.set_cons_zero, List.set_cons_succ]
  refine wpAnyK_one (i := 17) (by kernel_rfl) rfl rfl ?_
  refine wp_call_to (some 79) rfl 11 #[.slice a1 (L.filter (withinP lo hi le)).length c1, .slice a2 (L.filter (withinP lo hi le)).length c2] (by go_simp) (points_same (o1.fr hg2.2.1 (fun _ _ h => h)) hg2.1 rfl (Nat.le_trans (List.length_filter_le _ _) (by have := HN.out; omega))) ?_
  rintro e U3 ⟨rfl, f3⟩
  refine ⟨_, rfl, fun _ => (f1.two hg2.2.1).two f3, ?_⟩
  simp only [Act.put, List.setIfInBounds_toArray, List.set_cons_zero, List.set_cons_succ]
  have HE := hide (HP2.out.fr ((f1.two hg2.2.1).two f3))
  have HFR := hide ((f1.two hg2.2.1).two f3)
  clear f1 f3 hg2 o1 hS
  refine wpAnyK_one (i := 18) (by kernel_rfl) rfl rfl ?_
  go_simp
  refine ⟨HFR.out, ?_⟩
  refine wpAnyK_one (i := 19) (by kernel_rfl) rfl rfl ?_
  go_simp
  try refine ⟨HFR.out, ?_⟩
  refine wpAnyK_done (by kernel_rfl) ?_ _
  go_wp2
  go_ret2
  exact ⟨_, L, rfl, HE.out, by have := HN.out; omega, fun q hq => .inl hq⟩
set_option maxHeartbeats 8000000 in
theorem step_topn {w W : World} {bs gt : Nat} {a : Option Addr} {n c : Nat} {L : List Pt} (h : PS w bs gt (.slice a n c) L L W) (hn : L.length = n) (hnb : n ≤ 1048576) (k : Int) (p : Pt) (lo hi le : Int) (hid : In64 p.id) (hk : k = 3) (hn0 : n = 0) : Calls Try.prog 9 #[.pointer (some ⟨gt, 0, none⟩), .slice a n c, .agg #[.int .i64 k, .int .i64 p.x, .int .i64 p.y, .int .i64 p.id, .int .i64 lo, .int .i64 hi, .int .i64 le]] W fun e W' => StepPost w bs gt n L p e W' := by
  have HN := hide hn
  have HID := hide hid
  have b1 : BoxO (W.alloc (.cells #[.int .i64 k, .int .i64 p.x, .int .i64 p.y, .int .i64 p.id, .int .i64 lo, .int .i64 hi, .int .i64 le] 30)) W.heap.size k p lo hi le := heap_alloc_new W _
  have hz : (W.alloc (.cells #[.int .i64 k, .int .i64 p.x, .int .i64 p.y, .int .i64 p.id, .int .i64 lo, .int .i64 hi, .int .i64 le] 30)).heap.size = W.heap.size + 1 := by simp
  obtain ⟨W2, hW2⟩ : ∃ W2, W2 = (W.alloc (.cells #[.int .i64 k, .int .i64 p.x, .int .i64 p.y, .int .i64 p.id, .int .i64 lo, .int .i64 hi, .int .i64 le] 30)).alloc (.cells #[.int .i64 p.x, .int .i64 p.y, .int .i64 p.id] 56) := ⟨_, rfl⟩
  have HB : Hid (BoxO W2 W.heap.size k p lo hi le ∧ BoxR W2 (W.heap.size + 1) p ∧ Fr W W2 (fun _ => False)) := hide (by
    have F2 := Fr.alloc (W.alloc (.cells #[.int .i64 k, .int .i64 p.x, .int .i64 p.y, .int .i64 p.id, .int .i64 lo, .int .i64 hi, .int .i64 le] 30)) (.cells #[.int .i64 p.x, .int .i64 p.y, .int .i64 p.id] 56) (fun _ => False)
    have b2 := heap_alloc_new (W.alloc (.cells #[.int .i64 k, .int .i64 p.x, .int .i64 p.y, .int .i64 p.id, .int .i64 lo, .int .i64 hi, .int .i64 le] 30)) (.cells #[.int .i64 p.x, .int .i64 p.y, .int .i64 p.id] 56)
    rw [hz] at b2
    rw [hW2]
    exact ⟨b1.fr F2 (fun h => h), b2, (Fr.alloc W _ (fun _ => False)).two F2⟩)
  have HP := hide (h.fr HB.out.2.2)
  obtain ⟨_, x1, x2, x3, _⟩ := b1.cells
  obtain ⟨y0, y1, y2, y3, y4, y5, y6⟩ := HB.out.1.cells
  obtain ⟨z0, z1, z2⟩ := HB.out.2.1.pt
  have HW2 := hide hW2
  clear b1 hz hW2 h hn hid
  have hL0 : L = [] := List.eq_nil_of_length_eq_zero (HN.out.trans hn0)
  subst hL0
  subst hn0
  subst hk
  obtain ⟨t, hz⟩ : ∃ t : Pt, t = ⟨0, 0, 0⟩ := ⟨_, rfl⟩
  have HA := hide HP.out.topNone
  rw [← hz] at HA
  unfold Pt.agg at HA
  go_enter Try.func9, Try.ntmps9
  go_wp2_with (rw [← HW2.out])
  refine HA.out.mono ?_
  rintro e V ⟨rfl, fV⟩
  have HC := hide (topR_none (V.alloc (.cells #[.int .i64 t.x, .int .i64 t.y, .int .i64 t.id] 28)) a c)
  rw [← hz] at HC
  unfold Pt.agg at HC
  clear hz
  clear y0 y1 y2 y3 y4 y5 y6 z0 z1 z2 x1 x2 x3 HA
  go_wp2_with fail
  refine HC.out.mono ?_
  rintro e V2 ⟨rfl, fV2⟩
  have f1 := Fr.alloc V (.cells #[.int .i64 t.x, .int .i64 t.y, .int .i64 t.id] 28) (fun _ => False)
  have b13 : BoxAt (V.alloc (.cells #[.int .i64 t.x, .int .i64 t.y, .int .i64 t.id] 28)) V.heap.size t := heap_alloc_new V _
  have b13a := b13.fr fV2 (fun h => h)
  obtain ⟨V3, hV3⟩ : ∃ V3, V3 = V2.alloc (.cells #[.int .i64 t.x, .int .i64 t.y, .int .i64 t.id] 56) := ⟨_, rfl⟩
  have f3 : Fr V2 V3 (fun _ => False) := by rw [hV3]; exact Fr.alloc V2 _ (fun _ => False)
  have b13b := b13a.fr f3 (fun h => h)
  have b15 : BoxR V3 V2.heap.size t := by rw [hV3]; exact heap_alloc_new V2 _
  obtain ⟨V4, hV4⟩ : ∃ V4, V4 = V3.alloc (.cells #[.int .i64 t.x, .int .i64 t.y, .int .i64 t.id] 28) := ⟨_, rfl⟩
  have f4 : Fr V3 V4 (fun _ => False) := by rw [hV4]; exact Fr.alloc V3 _ (fun _ => False)
  have b98 : BoxAt V4 V3.heap.size t := by rw [hV4]; exact heap_alloc_new V3 _
  have b15a := b15.fr f4 (fun h => h)
  obtain ⟨V5, hV5⟩ : ∃ V5, V5 = V4.alloc (.cells #[.int .i64 t.x, .int .i64 t.y, .int .i64 t.id] 56) := ⟨_, rfl⟩
  have f5 : Fr V4 V5 (fun _ => False) := by rw [hV5]; exact Fr.alloc V4 _ (fun _ => False)
  have b100 : BoxR V5 V4.heap.size t := by rw [hV5]; exact heap_alloc_new V4 _
  have HD := hide (points_same (one_pt (b98.fr f5 (fun h => h))) (one_r b100) rfl (by omega))
  have HE := hide (HP.out.fr (((((fV.two f1).two fV2).two f3).two f4).two f5))
  obtain ⟨m0, m1, m2⟩ := b13b.pt
  obtain ⟨l0, l1, l2⟩ := b15a.pt
  have HV3 := hide hV3
  have HV4 := hide hV4
  have HV5 := hide hV5
  clear fV fV2 f1 f3 f4 f5 b13 b13a b13b b15 b15a b98 b100 hV3 hV4 hV5 HC
  go_wp2_with (first | (rw [← HV3.out]; clear HV3) | (rw [← HV4.out]; clear HV4) | (rw [← HV5.out]; clear HV5))
  refine HD.out.mono ?_
  rintro e V6 ⟨rfl, f6⟩
  have HE2 := hide (HE.out.fr f6)
  clear f6 HD HE m0 m1 m2 l0 l1 l2
  go_wp2
  go_ret2
  exact ⟨_, _, rfl, HE2.out, by first | (have := HN.out; omega) | simp, fun q hq => .inl hq⟩
set_option maxHeartbeats 8000000 in
theorem step_top {w W : World} {bs gt : Nat} {a : Option Addr} {n c : Nat} {L : List Pt} (h : PS w bs gt (.slice a n c) L L W) (hn : L.length = n) (hnb : n ≤ 1048576) (k : Int) (p : Pt) (lo hi le : Int) (hid : In64 p.id) (hk : k = 3) (hn0 : 0 < n) : Calls Try.prog 9 #[.pointer (some ⟨gt, 0, none⟩), .slice a n c, .agg #[.int .i64 k, .int .i64 p.x, .int .i64 p.y, .int .i64 p.id, .int .i64 lo, .int .i64 hi, .int .i64 le]] W fun e W' => StepPost w bs gt n L p e W' := by
  have HN := hide hn
  have HID := hide hid
  have b1 : BoxO (W.alloc (.cells #[.int .i64 k, .int .i64 p.x, .int .i64 p.y, .int .i64 p.id, .int .i64 lo, .int .i64 hi, .int .i64 le] 30)) W.heap.size k p lo hi le := heap_alloc_new W _
  have hz : (W.alloc (.cells #[.int .i64 k, .int .i64 p.x, .int .i64 p.y, .int .i64 p.id, .int .i64 lo, .int .i64 hi, .int .i64 le] 30)).heap.size = W.heap.size + 1 := by simp
  obtain ⟨W2, hW2⟩ : ∃ W2, W2 = (W.alloc (.cells #[.int .i64 k, .int .i64 p.x, .int .i64 p.y, .int .i64 p.id, .int .i64 lo, .int .i64 hi, .int .i64 le] 30)).alloc (.cells #[.int .i64 p.x, .int .i64 p.y, .int .i64 p.id] 56) := ⟨_, rfl⟩
  have HB : Hid (BoxO W2 W.heap.size k p lo hi le ∧ BoxR W2 (W.heap.size + 1) p ∧ Fr W W2 (fun _ => False)) := hide (by
    have F2 := Fr.alloc (W.alloc (.cells #[.int .i64 k, .int .i64 p.x, .int .i64 p.y, .int .i64 p.id, .int .i64 lo, .int .i64 hi, .int .i64 le] 30)) (.cells #[.int .i64 p.x, .int .i64 p.y, .int .i64 p.id] 56) (fun _ => False)
    have b2 := heap_alloc_new (W.alloc (.cells #[.int .i64 k, .int .i64 p.x, .int .i64 p.y, .int .i64 p.id, .int .i64 lo, .int .i64 hi, .int .i64 le] 30)) (.cells #[.int .i64 p.x, .int .i64 p.y, .int .i64 p.id] 56)
    rw [hz] at b2
    rw [hW2]
    exact ⟨b1.fr F2 (fun h => h), b2, (Fr.alloc W _ (fun _ => False)).two F2⟩)
  have HP := hide (h.fr HB.out.2.2)
  obtain ⟨_, x1, x2, x3, _⟩ := b1.cells
  obtain ⟨y0, y1, y2, y3, y4, y5, y6⟩ := HB.out.1.cells
  obtain ⟨z0, z1, z2⟩ := HB.out.2.1.pt
  have HW2 := hide hW2
  clear b1 hz hW2 h hn hid
  subst hk
  have hne : L ≠ [] := by intro h; rw [h] at HN; have := HN.out; simp at this; omega
  have HA := hide (HP.out.top hne)
  unfold Pt.agg at HA
  go_enter Try.func9, Try.ntmps9
  go_wp2_with (rw [← HW2.out])
  refine HA.out.mono ?_
  rintro e V ⟨t, rfl, ht1, ht2, fV⟩
  have HC := hide (topR_any ((HP.out.fr (fV.two (Fr.alloc V (.cells #[.int .i64 t.x, .int .i64 t.y, .int .i64 t.id] 28) (fun _ => False)))).own) HN.out hnb (by omega))
  unfold Pt.agg at HC
  clear y0 y1 y2 y3 y4 y5 y6 z0 z1 z2 x1 x2 x3 HA
  go_wp2_with fail
  refine HC.out.mono ?_
  rintro e V2 ⟨i, t2, rfl, hi2, hall, fV2⟩
  obtain rfl : t = t2 := top_eq HP.out.sorted hi2 hall ht1 ht2
  clear hi2 hall ht1 ht2
  have f1 := Fr.alloc V (.cells #[.int .i64 t.x, .int .i64 t.y, .int .i64 t.id] 28) (fun _ => False)
  have b13 : BoxAt (V.alloc (.cells #[.int .i64 t.x, .int .i64 t.y, .int .i64 t.id] 28)) V.heap.size t := heap_alloc_new V _
  have b13a := b13.fr fV2 (fun h => h)
  obtain ⟨V3, hV3⟩ : ∃ V3, V3 = V2.alloc (.cells #[.int .i64 t.x, .int .i64 t.y, .int .i64 t.id] 56) := ⟨_, rfl⟩
  have f3 : Fr V2 V3 (fun _ => False) := by rw [hV3]; exact Fr.alloc V2 _ (fun _ => False)
  have b13b := b13a.fr f3 (fun h => h)
  have b15 : BoxR V3 V2.heap.size t := by rw [hV3]; exact heap_alloc_new V2 _
  obtain ⟨V4, hV4⟩ : ∃ V4, V4 = V3.alloc (.cells #[.int .i64 t.x, .int .i64 t.y, .int .i64 t.id] 28) := ⟨_, rfl⟩
  have f4 : Fr V3 V4 (fun _ => False) := by rw [hV4]; exact Fr.alloc V3 _ (fun _ => False)
  have b98 : BoxAt V4 V3.heap.size t := by rw [hV4]; exact heap_alloc_new V3 _
  have b15a := b15.fr f4 (fun h => h)
  obtain ⟨V5, hV5⟩ : ∃ V5, V5 = V4.alloc (.cells #[.int .i64 t.x, .int .i64 t.y, .int .i64 t.id] 56) := ⟨_, rfl⟩
  have f5 : Fr V4 V5 (fun _ => False) := by rw [hV5]; exact Fr.alloc V4 _ (fun _ => False)
  have b100 : BoxR V5 V4.heap.size t := by rw [hV5]; exact heap_alloc_new V4 _
  have HD := hide (points_same (one_pt (b98.fr f5 (fun h => h))) (one_r b100) rfl (by omega))
  have HE := hide (HP.out.fr (((((fV.two f1).two fV2).two f3).two f4).two f5))
  obtain ⟨m0, m1, m2⟩ := b13b.pt
  obtain ⟨l0, l1, l2⟩ := b15a.pt
  have HV3 := hide hV3
  have HV4 := hide hV4
  have HV5 := hide hV5
  clear fV fV2 f1 f3 f4 f5 b13 b13a b13b b15 b15a b98 b100 hV3 hV4 hV5 HC
  go_wp2_with (first | (rw [← HV3.out]; clear HV3) | (rw [← HV4.out]; clear HV4) | (rw [← HV5.out]; clear HV5))
  refine HD.out.mono ?_
  rintro e V6 ⟨rfl, f6⟩
  have HE2 := hide (HE.out.fr f6)
  clear f6 HD HE m0 m1 m2 l0 l1 l2
  go_wp2
  go_ret2
  exact ⟨_, _, rfl, HE2.out, by first | (have := HN.out; omega) | simp, fun q hq => .inl hq⟩
set_option maxHeartbeats 8000000 in
theorem step_other {w W : World} {bs gt : Nat} {a : Option Addr} {n c : Nat} {L : List Pt} (h : PS w bs gt (.slice a n c) L L W) (hn : L.length = n) (hnb : n ≤ 1048576) (k : Int) (p : Pt) (lo hi le : Int) (hid : In64 p.id) (hk : k ≠ 0 ∧ k ≠ 1 ∧ k ≠ 2 ∧ k ≠ 3) : Calls Try.prog 9 #[.pointer (some ⟨gt, 0, none⟩), .slice a n c, .agg #[.int .i64 k, .int .i64 p.x, .int .i64 p.y, .int .i64 p.id, .int .i64 lo, .int .i64 hi, .int .i64 le]] W fun e W' => StepPost w bs gt n L p e W' := by
  have HN := hide hn
  have HID := hide hid
  have b1 : BoxO (W.alloc (.cells #[.int .i64 k, .int .i64 p.x, .int .i64 p.y, .int .i64 p.id, .int .i64 lo, .int .i64 hi, .int .i64 le] 30)) W.heap.size k p lo hi le := heap_alloc_new W _
  have hz : (W.alloc (.cells #[.int .i64 k, .int .i64 p.x, .int .i64 p.y, .int .i64 p.id, .int .i64 lo, .int .i64 hi, .int .i64 le] 30)).heap.size = W.heap.size + 1 := by simp
  obtain ⟨W2, hW2⟩ : ∃ W2, W2 = (W.alloc (.cells #[.int .i64 k, .int .i64 p.x, .int .i64 p.y, .int .i64 p.id, .int .i64 lo, .int .i64 hi, .int .i64 le] 30)).alloc (.cells #[.int .i64 p.x, .int .i64 p.y, .int .i64 p.id] 56) := ⟨_, rfl⟩
  have HB : Hid (BoxO W2 W.heap.size k p lo hi le ∧ BoxR W2 (W.heap.size + 1) p ∧ Fr W W2 (fun _ => False)) := hide (by
    have F2 := Fr.alloc (W.alloc (.cells #[.int .i64 k, .int .i64 p.x, .int .i64 p.y, .int .i64 p.id, .int .i64 lo, .int .i64 hi, .int .i64 le] 30)) (.cells #[.int .i64 p.x, .int .i64 p.y, .int .i64 p.id] 56) (fun _ => False)
    have b2 := heap_alloc_new (W.alloc (.cells #[.int .i64 k, .int .i64 p.x, .int .i64 p.y, .int .i64 p.id, .int .i64 lo, .int .i64 hi, .int .i64 le] 30)) (.cells #[.int .i64 p.x, .int .i64 p.y, .int .i64 p.id] 56)
    rw [hz] at b2
    rw [hW2]
    exact ⟨b1.fr F2 (fun h => h), b2, (Fr.alloc W _ (fun _ => False)).two F2⟩)
  have HP := hide (h.fr HB.out.2.2)
  obtain ⟨_, x1, x2, x3, _⟩ := b1.cells
  obtain ⟨y0, y1, y2, y3, y4, y5, y6⟩ := HB.out.1.cells
  obtain ⟨z0, z1, z2⟩ := HB.out.2.1.pt
  have HW2 := hide hW2
  clear b1 hz hW2 h hn hid
  have k0 : (k == 0) = false := by simp [hk.1]
  have k1 : (k == 1) = false := by simp [hk.2.1]
  have k2 : (k == 2) = false := by simp [hk.2.2.1]
  have k3 : (k == 3) = false := by simp [hk.2.2.2]
  clear hk
  go_enter Try.func9, Try.ntmps9
  go_wp2_with (rw [← HW2.out])
  go_ret2
  exact ⟨_, L, rfl, HP.out, by have := HN.out; omega, fun q hq => .inl hq⟩
theorem step_any {w W : World} {bs gt : Nat} {a : Option Addr} {n c : Nat} {L : List Pt} (h : PS w bs gt (.slice a n c) L L W) (hn : L.length = n) (hnb : n ≤ 1048576) (k : Int) (p : Pt) (lo hi le : Int) (hid : In64 p.id) : Calls Try.prog 9 #[.pointer (some ⟨gt, 0, none⟩), .slice a n c, .agg #[.int .i64 k, .int .i64 p.x, .int .i64 p.y, .int .i64 p.id, .int .i64 lo, .int .i64 hi, .int .i64 le]] W fun e W' => StepPost w bs gt n L p e W' := by
  by_cases h0 : k = 0
  · exact step_add h hn hnb k p lo hi le hid h0
  by_cases h1 : k = 1
  · exact step_cut h hn hnb k p lo hi le hid h1
  by_cases h2 : k = 2
  · exact step_find h hn hnb k p lo hi le hid h2
  by_cases h3 : k = 3
  · rcases Nat.eq_zero_or_pos n with h4 | h4
    · exact step_topn h hn hnb k p lo hi le hid h3 h4
    · exact step_top h hn hnb k p lo hi le hid h3 h4
  exact step_other h hn hnb k p lo hi le hid ⟨h0, h1, h2, h3⟩
end Go.Proofs.Ytklnaeldhdhmiaa
