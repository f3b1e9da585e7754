/- order, above, side, weight. -/
import Derived.Test.YtklnaeldhdhmiaaA
import Derived.Test.YtklnaeldhdhmiaaKr
import Derived.Shelf.SlSortCmp.NoneTotal
namespace Go.Proofs.Ytklnaeldhdhmiaa
open Go.RowKit Go.Sort
set_option maxRecDepth 100000
set_option linter.unusedVariables false
set_option linter.unusedSimpArgs false

def Pt.agg (p : Pt) : Value := .agg #[.int .i64 p.x, .int .i64 p.y, .int .i64 p.id]
def ptc (p : Pt) : List Value := [.int .i64 p.x, .int .i64 p.y, .int .i64 p.id]
def orI (a b : Int) : Int := if a = 0 then b else a
def ordI (p q : Pt) : Int := orI (Lib.compareInt p.x q.x) (Lib.compareInt p.id q.id)
theorem ordI_neg (p q : Pt) : ordI p q < 0 ↔ aheadP p q := by
  unfold ordI orI Lib.compareInt aheadP
  by_cases h1 : p.x < q.x
  · simp [h1]
  · by_cases h2 : q.x < p.x
    · simp [h1, h2]; omega
    · have h3 : p.x = q.x := by omega
      by_cases h4 : p.id < q.id
      · simp [h3, h4]
      · by_cases h5 : q.id < p.id
        · simp [h3, h4, h5]
        · simp [h3, h4, h5]
theorem aboveI (p q : Pt) : orI (Lib.compareInt q.y p.y) (ordI p q) < 0 ↔ aboveP p q := by
  rw [aboveP, ← ordI_neg]
  unfold orI Lib.compareInt
  by_cases h1 : q.y < p.y
  · simp [h1]
  · by_cases h2 : p.y < q.y
    · simp [h1, h2]; omega
    · have h3 : p.y = q.y := by omega
      simp [h3]
theorem isNaN43 (x : Int) (w : World) : Calls Try.prog 43 #[.int .i64 x] w fun e w' => e = .returned (.bool false) ∧ w' = w := by
  go_enter Try.func43, Try.ntmps43
  go_wp2
  go_ret
  exact ⟨rfl, rfl⟩
theorem compare28 (x y : Int) (w : World) : Calls Try.prog 28 #[.int .i64 x, .int .i64 y] w fun e w' => e = .returned (.int .i64 (Lib.compareInt x y)) ∧ w' = w := by
  have HN := hide (fun z W => isNaN43 z W)
  have h1 : x < y → Lib.compareInt x y = -1 := fun h => by unfold Lib.compareInt; simp [h]
  have h2 : ¬ x < y → y < x → Lib.compareInt x y = 1 := fun h g => by unfold Lib.compareInt; simp [h, g]
  have h3 : ¬ x < y → ¬ y < x → Lib.compareInt x y = 0 := fun h g => by unfold Lib.compareInt; simp [h, g]
  generalize Lib.compareInt x y = r at *
  by_cases hlt : x < y
  · obtain rfl := h1 hlt
    clear h1 h2 h3
    go_enter Try.func28, Try.ntmps28
    go_wp2_with (go_at_call 43; refine (HN.out _ _).mono ?_; rintro e w' ⟨rfl, hV⟩; obtain rfl := hV.symm; clear hV)
    go_ret
    exact ⟨rfl, rfl⟩
  · by_cases hgt : y < x
    · obtain rfl := h2 hlt hgt
      clear h1 h2 h3
      go_enter Try.func28, Try.ntmps28
      go_wp2_with (go_at_call 43; refine (HN.out _ _).mono ?_; rintro e w' ⟨rfl, hV⟩; obtain rfl := hV.symm; clear hV)
      go_ret
      exact ⟨rfl, rfl⟩
    · obtain rfl := h3 hlt hgt
      clear h1 h2 h3
      go_enter Try.func28, Try.ntmps28
      go_wp2_with (go_at_call 43; refine (HN.out _ _).mono ?_; rintro e w' ⟨rfl, hV⟩; obtain rfl := hV.symm; clear hV)
      go_ret
      exact ⟨rfl, rfl⟩
def Same (w w' : World) : Prop := w' = w
set_option maxHeartbeats 2000000 in
theorem or_any (w : World) (g : Nat) (a b : Int) (h0 : w.cell? ⟨g, 0, none⟩ = some (.int .i64 a)) (h1 : w.cell? ⟨g, 1, none⟩ = some (.int .i64 b)) : Calls Try.prog 27 #[.slice (some ⟨g, 0, none⟩) 2 2] w fun e w' => e = .returned (.int .i64 (orI a b)) ∧ w' = w := by
  go_enter Try.func27, Try.ntmps27
  go_wp2
  go_loopw [8] (fun i wr => ∃ j : Nat, j ≤ 2 ∧ i = .int .i64 (j : Int) ∧ (1 ≤ j → a = 0) ∧ (2 ≤ j → b = 0) ∧ Same w wr) (fun i _ => 2 - (intOf i).toNat)
  case atStart => exact ⟨0, by omega, rfl, (fun h => by omega), (fun h => by omega), rfl⟩
  case round =>
    rename World => W1
    obtain ⟨j, hj, rfl, ha, hb, hw⟩ := hrel
    unfold Same at hw
    subst hw
    have hc : j = 0 ∨ j = 1 ∨ j = 2 := by omega
    rcases hc with rfl | rfl | rfl
    · by_cases hz : a = 0
      · subst hz
        go_wp2
        go_roundw
        case rel => exact ⟨1, by omega, by go_num, by simp, by simp, rfl⟩
        case measure => simp [intOf]
      · have hz1 : (a != 0) = true := by simp [hz]
        go_wp2
        go_ret
        exact ⟨by rw [orI, if_neg hz]; rfl, rfl⟩
    · obtain rfl := ha (by omega)
      by_cases hz : b = 0
      · subst hz
        go_wp2
        go_roundw
        case rel => exact ⟨2, by omega, by go_num, by simp, by simp, rfl⟩
        case measure => simp [intOf]
      · have hz1 : (b != 0) = true := by simp [hz]
        go_wp2
        go_ret
        exact ⟨rfl, rfl⟩
    · obtain rfl := ha (by omega)
      obtain rfl := hb (by omega)
      go_wp2
      go_ret
      exact ⟨rfl, rfl⟩
set_option maxHeartbeats 4000000 in
theorem order_grow (p q : Pt) (w : World) : Calls Try.prog 22 #[p.agg, q.agg] w fun e w' => e = .returned (.int .i64 (ordI p q)) ∧ ∃ n os', w' = grow (w.drewN n) os' := by
  unfold Pt.agg ordI
  have HC1 := hide (fun W => compare28 p.x q.x W)
  have HC2 := hide (fun W => compare28 p.id q.id W)
  generalize Lib.compareInt p.x q.x = r1 at *
  generalize Lib.compareInt p.id q.id = r2 at *
  obtain ⟨A, hA⟩ : ∃ A : Obj, A = .cells #[.int .i64 p.x, .int .i64 p.y, .int .i64 p.id] 28 := ⟨_, rfl⟩
  obtain ⟨B, hB⟩ : ∃ B : Obj, B = .cells #[.int .i64 q.x, .int .i64 q.y, .int .i64 q.id] 28 := ⟨_, rfl⟩
  have b1 := heap_alloc_new w A
  have b2 := heap_alloc_new (w.alloc A) B
  have hz : (w.alloc A).heap.size = w.heap.size + 1 := by simp
  rw [hz] at b2
  have b1' : ((w.alloc A).alloc B).heap[w.heap.size]? = some A := by rw [(Fr.alloc (w.alloc A) B (fun _ => False)).block _ (by omega) (fun h => h)]; exact b1
  have hS : (fun U : World => U.cell? ⟨w.heap.size, 0, none⟩ = some (.int .i64 p.x) ∧ U.cell? ⟨w.heap.size, 2, none⟩ = some (.int .i64 p.id) ∧ U.cell? ⟨w.heap.size + 1, 0, none⟩ = some (.int .i64 q.x) ∧ U.cell? ⟨w.heap.size + 1, 2, none⟩ = some (.int .i64 q.id)) ((w.alloc A).alloc B).drew := by
    subst hA hB
    refine ⟨?_, ?_, ?_, ?_⟩
    · exact (cell_of_row _ _ _ _ _ _ b1').trans rfl
    · exact (cell_of_row _ _ _ _ _ _ b1').trans rfl
    · exact (cell_of_row _ _ _ _ _ _ b2).trans rfl
    · exact (cell_of_row _ _ _ _ _ _ b2).trans rfl
  have HG : Hid (∀ C : Obj, ((w.alloc A).alloc B).drew.alloc C = grow (w.drewN 1) #[A, B, C]) := hide (fun C => by
    rw [alloc_eq_grow w A, alloc_eq_grow _ B, alloc_eq_grow _ C]
    have e : (grow (grow w #[A]) #[B]).drew = grow (grow (w.drewN 1) #[A]) #[B] := rfl
    rw [e, grow_grow, grow_grow]
    rfl)
  go_enter Try.func22, Try.ntmps22
  go_wp2_with fail
  rw [← hA, ← hB]
  refine wp_region_K (fun z => decide (z < 10)) (fun U : World => U.cell? ⟨w.heap.size, 0, none⟩ = some (.int .i64 p.x) ∧ U.cell? ⟨w.heap.size, 2, none⟩ = some (.int .i64 p.id) ∧ U.cell? ⟨w.heap.size + 1, 0, none⟩ = some (.int .i64 q.x) ∧ U.cell? ⟨w.heap.size + 1, 2, none⟩ = some (.int .i64 q.id)) (by kernel_rfl) ?_
  clear b1 b2 hz b1' hA hB
  generalize hU : ((w.alloc A).alloc B).drew = U at *
  clear hU
  refine wpAnyK_takeTo 0 (some 5) (.pointer (some ⟨w.heap.size, 0, none⟩)) [1, 4, 9, 10, 11, 12] rfl rfl (by kernel_rfl) (by kernel_rfl) (by kernel_rfl) (by kernel_rfl) (fun _ _ _ h => h) hS (Or.inl ⟨rfl, fun w1 hw1 => by obtain ⟨q1, q2, q3, q4⟩ := hw1; go_simp⟩) ?_
  simp only [Act.put, List.setIfInBounds_toArray, List.set_cons_zero, List.set_cons_succ]
  refine wpAnyK_takeTo 1 (some 6) (.int .i64 p.x) [4, 9, 10, 11, 12] rfl rfl (by kernel_rfl) (by kernel_rfl) (by kernel_rfl) (by kernel_rfl) (fun _ _ _ h => h) hS (Or.inl ⟨rfl, fun w1 hw1 => by obtain ⟨q1, q2, q3, q4⟩ := hw1; go_simp⟩) ?_
  simp only [Act.put, List.setIfInBounds_toArray, List.set_cons_zero, List.set_cons_succ]
  refine wpAnyK_takeTo 2 (some 7) (.pointer (some ⟨w.heap.size + 1, 0, none⟩)) [3, 4, 9, 10, 11, 12] rfl rfl (by kernel_rfl) (by kernel_rfl) (by kernel_rfl) (by kernel_rfl) (fun _ _ _ h => h) hS (Or.inl ⟨rfl, fun w1 hw1 => by obtain ⟨q1, q2, q3, q4⟩ := hw1; go_simp⟩) ?_
  simp only [Act.put, List.setIfInBounds_toArray, List.set_cons_zero, List.set_cons_succ]
  refine wpAnyK_takeTo 3 (some 8) (.int .i64 q.x) [4, 9, 10, 11, 12] rfl rfl (by kernel_rfl) (by kernel_rfl) (by kernel_rfl) (by kernel_rfl) (fun _ _ _ h => h) hS (Or.inl ⟨rfl, fun w1 hw1 => by obtain ⟨q1, q2, q3, q4⟩ := hw1; go_simp⟩) ?_
  simp only [Act.put, List.setIfInBounds_toArray, List.set_cons_zero, List.set_cons_succ]
  refine wpAnyK_takeTo 5 (some 10) (.pointer (some ⟨w.heap.size, 2, none⟩)) [6, 9, 10, 11, 12] rfl rfl (by kernel_rfl) (by kernel_rfl) (by kernel_rfl) (by kernel_rfl) (fun _ _ _ h => h) hS (Or.inl ⟨rfl, fun w1 hw1 => by obtain ⟨q1, q2, q3, q4⟩ := hw1; go_simp⟩) ?_
  simp only [Act.put, List.setIfInBounds_toArray, List.set_cons_zero, List.set_cons_succ]
  refine wpAnyK_takeTo 6 (some 11) (.int .i64 p.id) [9, 10, 11, 12] rfl rfl (by kernel_rfl) (by kernel_rfl) (by kernel_rfl) (by kernel_rfl) (fun _ _ _ h => h) hS (Or.inl ⟨rfl, fun w1 hw1 => by obtain ⟨q1, q2, q3, q4⟩ := hw1; go_simp⟩) ?_
  simp only [Act.put, List.setIfInBounds_toArray, List.set_cons_zero, List.set_cons_succ]
  refine wpAnyK_takeTo 7 (some 12) (.pointer (some ⟨w.heap.size + 1, 2, none⟩)) [8, 9, 10, 11, 12] rfl rfl (by kernel_rfl) (by kernel_rfl) (by kernel_rfl) (by kernel_rfl) (fun _ _ _ h => h) hS (Or.inl ⟨rfl, fun w1 hw1 => by obtain ⟨q1, q2, q3, q4⟩ := hw1; go_simp⟩) ?_
  simp only [Act.put, List.setIfInBounds_toArray, List.set_cons_zero, List.set_cons_succ]
  refine wpAnyK_takeTo 8 (some 13) (.int .i64 q.id) [9, 10, 11, 12] rfl rfl (by kernel_rfl) (by kernel_rfl) (by kernel_rfl) (by kernel_rfl) (fun _ _ _ h => h) hS (Or.inl ⟨rfl, fun w1 hw1 => by obtain ⟨q1, q2, q3, q4⟩ := hw1; go_simp⟩) ?_
  simp only [Act.put, List.setIfInBounds_toArray, List.set_cons_zero, List.set_cons_succ]
  refine wpAnyK_one (i := 4) (by kernel_rfl) rfl rfl ?_
  refine wp_call_to (some 9) rfl 28 #[.int .i64 p.x, .int .i64 q.x] (by go_simp) (HC1.out _) ?_
  rintro e U1 ⟨rfl, rfl⟩
  refine ⟨_, rfl, fun _ => hS, ?_⟩
  simp only [Act.put, List.setIfInBounds_toArray, List.set_cons_zero, List.set_cons_succ]
  refine wpAnyK_one (i := 9) (by kernel_rfl) rfl rfl ?_
  refine wp_call_to (some 14) rfl 28 #[.int .i64 p.id, .int .i64 q.id] (by go_simp) (HC2.out _) ?_
  rintro e U2 ⟨rfl, rfl⟩
  refine ⟨_, rfl, fun _ => hS, ?_⟩
  simp only [Act.put, List.setIfInBounds_toArray, List.set_cons_zero, List.set_cons_succ]
  refine wpAnyK_one (i := 10) (by kernel_rfl) rfl rfl ?_
  clear hS
  have hn := heap_alloc_new U2 (.cells #[.int .i64 r1, .int .i64 r2] 3)
  go_simp
  refine wpAnyK_one (i := 11) (by kernel_rfl) rfl rfl ?_
  refine wp_call_to (some 16) rfl 27 #[.slice (some ⟨U2.heap.size, 0, none⟩) 2 2] (by go_simp) (or_any _ _ r1 r2 ((cell_of_row _ _ _ _ _ _ hn).trans rfl) ((cell_of_row _ _ _ _ _ _ hn).trans rfl)) ?_
  rintro e U3 ⟨rfl, rfl⟩
  refine ⟨_, rfl, fun h => by simp at h, ?_⟩
  simp only [Act.put, List.setIfInBounds_toArray, List.set_cons_zero, List.set_cons_succ]
  refine wpAnyK_one (i := 12) (by kernel_rfl) rfl rfl ?_
  go_simp
  refine wpAnyK_done (by kernel_rfl) ?_ _
  go_wp2
  go_ret
  exact ⟨rfl, 1, _, HG.out _⟩
end Go.Proofs.Ytklnaeldhdhmiaa
