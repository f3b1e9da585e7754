/- Facts sorted by time. -/
import Derived.Test.YtlapifncplbcnaaGreatEl
namespace Go.Proofs.YtlapifncplbcnaaGreat
open Go.RowKit Go.Sort Go.Shelf
set_option maxRecDepth 100000
set_option linter.unusedVariables false
set_option linter.unusedSimpArgs false

theorem two_ints {w : World} {g : Nat} {x y : Int} {t : TypeId} (h : w.heap[g]? = some (.cells #[.int .i64 x, .int .i64 y] t (0, 0))) : ∀ (j : Nat) (u : Int), [x, y][j]? = some u → w.cell? ⟨g, j, none⟩ = some (.int .i64 u) := by
  intro j u hu
  rw [cell_of_row _ _ _ _ _ _ h]
  match j with
  | 0 => simp at hu; subst hu; rfl
  | 1 => simp at hu; subst hu; rfl
  | j + 2 => simp at hu
def ordF (x y : Ft) : Int := firstOf [cmpI x.lo y.lo, cmpI x.hi y.hi]
theorem ordF_lex (x y : Ft) : ordF x y = lex (fun a b : Ft => cmpI a.lo b.lo) (fun a b => cmpI a.hi b.hi) x y := by
  unfold ordF lex firstOf firstOf
  split
  · split
    · rename_i h; exact h.symm
    · rfl
  · rfl
theorem good_ordF : Good ordF := by
  have e : ordF = lex (fun a b : Ft => cmpI a.lo b.lo) (fun a b => cmpI a.hi b.hi) := by funext x y; exact ordF_lex x y
  rw [e]
  exact (good_int Ft.lo).lex (good_int Ft.hi)
set_option maxHeartbeats 4000000 in
theorem factCmp (w : World) (x y : Ft) :
    Calls Tryz.prog 101 (#[.agg (elF.enc x).toArray, .agg (elF.enc y).toArray] ++ #[]) w fun e w' => e = .returned (.int .i64 (ordF x y)) ∧ Gr w w' := by
  show Calls Tryz.prog 101 #[.agg #[x.rv, .int .i64 x.lo, .int .i64 x.hi], .agg #[y.rv, .int .i64 y.lo, .int .i64 y.hi]] w _
  unfold ordF
  have eX : x.rv = .slice x.p x.row.length x.c := rfl
  have eY : y.rv = .slice y.p y.row.length y.c := rfl
  go_enter Tryz.func101, Tryz.ntmps101
  rw [eX, eY]
  go_wp2_with fail
  rw [← eX, ← eY]
  have T1 := three_of (heap_alloc2_old w (.cells #[x.rv, .int .i64 x.lo, .int .i64 x.hi] 59) (.cells #[y.rv, .int .i64 y.lo, .int .i64 y.hi] 59))
  have T2 := three_of (heap_alloc2_new w (.cells #[x.rv, .int .i64 x.lo, .int .i64 x.hi] 59) (.cells #[y.rv, .int .i64 y.lo, .int .i64 y.hi] 59))
  have G2 : Gr w ((w.alloc (.cells #[x.rv, .int .i64 x.lo, .int .i64 x.hi] 59)).alloc (.cells #[y.rv, .int .i64 y.lo, .int .i64 y.hi] 59)) := gr_two
  generalize hW : (w.alloc (.cells #[x.rv, .int .i64 x.lo, .int .i64 x.hi] 59)).alloc (.cells #[y.rv, .int .i64 y.lo, .int .i64 y.hi] 59) = W at *
  clear hW
  refine wp_region_K (fun _ => true) (fun V : World => Three V w.heap.size x.rv (.int .i64 x.lo) (.int .i64 x.hi) ∧ Three V (w.heap.size + 1) y.rv (.int .i64 y.lo) (.int .i64 y.hi)) (by kernel_rfl) ?_
  have D0 := Fr.drew W (fun _ => False)
  have G0 := Gr.drew W
  have S0 : (fun V : World => Three V w.heap.size x.rv (.int .i64 x.lo) (.int .i64 x.hi) ∧ Three V (w.heap.size + 1) y.rv (.int .i64 y.lo) (.int .i64 y.hi)) W.drew := ⟨T1.fr D0 id, T2.fr D0 id⟩
  refine wpAnyK_takeTo 0 (some 5) ((.pointer (some ⟨w.heap.size, 1, none⟩))) [1, 2, 6, 13, 14, 15, 16] rfl rfl (by kernel_rfl) (by kernel_rfl) (by kernel_rfl) (by kernel_rfl) (fun _ _ _ h => h) S0 (Or.inl ⟨rfl, fun w1 hw1 => by go_simp⟩) ?_
  simp only [Act.put, List.setIfInBounds_toArray, List.set_cons_zero, List.set_cons_succ]
  refine wpAnyK_takeTo 1 (some 6) ((.pointer (some ⟨w.heap.size, 1, none⟩))) [2, 6, 13, 14, 15, 16] rfl rfl (by kernel_rfl) (by kernel_rfl) (by kernel_rfl) (by kernel_rfl) (fun _ _ _ h => h) S0 (Or.inl ⟨rfl, fun w1 hw1 => by go_simp⟩) ?_
  simp only [Act.put, List.setIfInBounds_toArray, List.set_cons_zero, List.set_cons_succ]
  refine wpAnyK_takeTo 2 (some 7) ((.int .i64 x.lo)) [6, 13, 14, 15, 16] rfl rfl (by kernel_rfl) (by kernel_rfl) (by kernel_rfl) (by kernel_rfl) (fun _ _ _ h => h) S0 (Or.inl ⟨rfl, fun w1 hw1 => by obtain ⟨⟨q0, q1, q2, _⟩, ⟨q3, q4, q5, _⟩⟩ := hw1; go_simp⟩) ?_
  simp only [Act.put, List.setIfInBounds_toArray, List.set_cons_zero, List.set_cons_succ]
  refine wpAnyK_takeTo 3 (some 8) ((.pointer (some ⟨w.heap.size + 1, 1, none⟩))) [4, 5, 6, 13, 14, 15, 16] rfl rfl (by kernel_rfl) (by kernel_rfl) (by kernel_rfl) (by kernel_rfl) (fun _ _ _ h => h) S0 (Or.inl ⟨rfl, fun w1 hw1 => by go_simp⟩) ?_
  simp only [Act.put, List.setIfInBounds_toArray, List.set_cons_zero, List.set_cons_succ]
  refine wpAnyK_takeTo 4 (some 9) ((.pointer (some ⟨w.heap.size + 1, 1, none⟩))) [5, 6, 13, 14, 15, 16] rfl rfl (by kernel_rfl) (by kernel_rfl) (by kernel_rfl) (by kernel_rfl) (fun _ _ _ h => h) S0 (Or.inl ⟨rfl, fun w1 hw1 => by go_simp⟩) ?_
  simp only [Act.put, List.setIfInBounds_toArray, List.set_cons_zero, List.set_cons_succ]
  refine wpAnyK_takeTo 5 (some 10) ((.int .i64 y.lo)) [6, 13, 14, 15, 16] rfl rfl (by kernel_rfl) (by kernel_rfl) (by kernel_rfl) (by kernel_rfl) (fun _ _ _ h => h) S0 (Or.inl ⟨rfl, fun w1 hw1 => by obtain ⟨⟨q0, q1, q2, _⟩, ⟨q3, q4, q5, _⟩⟩ := hw1; go_simp⟩) ?_
  simp only [Act.put, List.setIfInBounds_toArray, List.set_cons_zero, List.set_cons_succ]
  refine wpAnyK_takeTo 7 (some 12) ((.pointer (some ⟨w.heap.size, 1, none⟩))) [8, 9, 13, 14, 15, 16] rfl rfl (by kernel_rfl) (by kernel_rfl) (by kernel_rfl) (by kernel_rfl) (fun _ _ _ h => h) S0 (Or.inl ⟨rfl, fun w1 hw1 => by go_simp⟩) ?_
  simp only [Act.put, List.setIfInBounds_toArray, List.set_cons_zero, List.set_cons_succ]
  refine wpAnyK_takeTo 8 (some 13) ((.pointer (some ⟨w.heap.size, 2, none⟩))) [9, 13, 14, 15, 16] rfl rfl (by kernel_rfl) (by kernel_rfl) (by kernel_rfl) (by kernel_rfl) (fun _ _ _ h => h) S0 (Or.inl ⟨rfl, fun w1 hw1 => by go_simp⟩) ?_
  simp only [Act.put, List.setIfInBounds_toArray, List.set_cons_zero, List.set_cons_succ]
  refine wpAnyK_takeTo 9 (some 14) ((.int .i64 x.hi)) [13, 14, 15, 16] rfl rfl (by kernel_rfl) (by kernel_rfl) (by kernel_rfl) (by kernel_rfl) (fun _ _ _ h => h) S0 (Or.inl ⟨rfl, fun w1 hw1 => by obtain ⟨⟨q0, q1, q2, _⟩, ⟨q3, q4, q5, _⟩⟩ := hw1; go_simp⟩) ?_
  simp only [Act.put, List.setIfInBounds_toArray, List.set_cons_zero, List.set_cons_succ]
  refine wpAnyK_takeTo 10 (some 15) ((.pointer (some ⟨w.heap.size + 1, 1, none⟩))) [11, 12, 13, 14, 15, 16] rfl rfl (by kernel_rfl) (by kernel_rfl) (by kernel_rfl) (by kernel_rfl) (fun _ _ _ h => h) S0 (Or.inl ⟨rfl, fun w1 hw1 => by go_simp⟩) ?_
  simp only [Act.put, List.setIfInBounds_toArray, List.set_cons_zero, List.set_cons_succ]
  refine wpAnyK_takeTo 11 (some 16) ((.pointer (some ⟨w.heap.size + 1, 2, none⟩))) [12, 13, 14, 15, 16] rfl rfl (by kernel_rfl) (by kernel_rfl) (by kernel_rfl) (by kernel_rfl) (fun _ _ _ h => h) S0 (Or.inl ⟨rfl, fun w1 hw1 => by go_simp⟩) ?_
  simp only [Act.put, List.setIfInBounds_toArray, List.set_cons_zero, List.set_cons_succ]
  refine wpAnyK_takeTo 12 (some 17) ((.int .i64 y.hi)) [13, 14, 15, 16] rfl rfl (by kernel_rfl) (by kernel_rfl) (by kernel_rfl) (by kernel_rfl) (fun _ _ _ h => h) S0 (Or.inl ⟨rfl, fun w1 hw1 => by obtain ⟨⟨q0, q1, q2, _⟩, ⟨q3, q4, q5, _⟩⟩ := hw1; go_simp⟩) ?_
  simp only [Act.put, List.setIfInBounds_toArray, List.set_cons_zero, List.set_cons_succ]
  refine wpAnyK_one (i := 6) (by kernel_rfl) rfl rfl ?_
  refine wp_call_to (some 11) rfl 83 #[.int .i64 x.lo, .int .i64 y.lo] (by go_simp) (cmpInt64_any _ _ _) ?_
  rintro e w' ⟨rfl, rfl⟩
  refine ⟨_, rfl, fun _ => S0, ?_⟩
  simp only [Act.put, List.setIfInBounds_toArray, List.set_cons_zero, List.set_cons_succ]
  refine wpAnyK_one (i := 13) (by kernel_rfl) rfl rfl ?_
  refine wp_call_to (some 18) rfl 83 #[.int .i64 x.hi, .int .i64 y.hi] (by go_simp) (cmpInt64_any _ _ _) ?_
  rintro e w' ⟨rfl, rfl⟩
  refine ⟨_, rfl, fun _ => S0, ?_⟩
  simp only [Act.put, List.setIfInBounds_toArray, List.set_cons_zero, List.set_cons_succ]
  refine wpAnyK_one (i := 14) (by kernel_rfl) rfl rfl ?_
  go_simp
  have D1 := (D0.trans (Fr.alloc W.drew (.cells #[.int .i64 (cmpI x.lo y.lo), .int .i64 (cmpI x.hi y.hi)] 3) (fun _ => False))).mono (Y := fun _ => False) (by simp)
  have S1 : (fun V : World => Three V w.heap.size x.rv (.int .i64 x.lo) (.int .i64 x.hi) ∧ Three V (w.heap.size + 1) y.rv (.int .i64 y.lo) (.int .i64 y.hi)) (W.drew.alloc (.cells #[.int .i64 (cmpI x.lo y.lo), .int .i64 (cmpI x.hi y.hi)] 3)) := ⟨T1.fr D1 id, T2.fr D1 id⟩
  refine ⟨S1, ?_⟩
  refine wpAnyK_one (i := 15) (by kernel_rfl) rfl rfl ?_
  refine wp_call_to (some 20) rfl 102 #[.slice (some ⟨W.heap.size, 0, none⟩) 2 2] (by go_simp) (or_any W.heap.size 2 [cmpI x.lo y.lo, cmpI x.hi y.hi] _ (two_ints (heap_alloc_new W.drew _)) (by simp)) ?_
  rintro e w' ⟨rfl, rfl⟩
  refine ⟨_, rfl, fun _ => S1, ?_⟩
  simp only [Act.put, List.setIfInBounds_toArray, List.set_cons_zero, List.set_cons_succ]
  refine wpAnyK_takeTo 16 (some 4) ((.int .i64 (firstOf [cmpI x.lo y.lo, cmpI x.hi y.hi]))) [] rfl rfl (by kernel_rfl) (by kernel_rfl) (by kernel_rfl) (by kernel_rfl) (fun _ _ _ h => h) S1 (Or.inl ⟨rfl, fun w1 hw1 => by go_simp⟩) ?_
  simp only [Act.put, List.setIfInBounds_toArray, List.set_cons_zero, List.set_cons_succ]
  refine wpAnyK_done (by kernel_rfl) ?_ _
  go_wp2
  go_ret
  exact ⟨rfl, G2.trans (G0.trans (Gr.alloc _ _))⟩
theorem enters_fact : ∀ args w, (callFunc 101 args).run Tryz.prog w = .ok (.enter 101 args) w := enters_of Tryz.func101 (by kernel_rfl) rfl
/-- Facts sorted by time. -/
theorem sortF_any (v : Value) (S : List Ft) (w : World) (hv : Own elF w v S) (hl : S.length ≤ 2199023255552) :
    Calls Tryz.prog 100 #[v, .func (.func 101) #[] #[]] w fun e w' => e = .returned (.tuple #[]) ∧ ∃ T : List Ft, T.Perm S ∧ T.Pairwise (fun x y => ¬ ordF y x < 0) ∧ Own elF w' v T ∧ Fr w w' (fun k => v.ownBlock = some k) :=
  sort_own elF Tryz.sortFact Tryz.isAgg59 Tryz.sizeOf59 ordF good_ordF 101 #[] enters_fact v S w hv hl (fun _ => True) (fun _ _ => trivial)
    (fun w1 _ x y _ _ => factCmp w1 x y)
end Go.Proofs.YtlapifncplbcnaaGreat
