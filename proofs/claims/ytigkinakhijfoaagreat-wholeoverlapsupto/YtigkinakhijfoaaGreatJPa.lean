/- A tree of points, plainly. -/
import Derived.Test.YtigkinakhijfoaaGreatB
import Derived.Lib.Walk
import Derived.Test.YtigkinakhijfoaaGreatKr
import Derived.Shelf.SlSortCmp.NoneTotal
namespace Go.Proofs.YtigkinakhijfoaaGreat.Ps
open Go.RowKit
set_option linter.unusedVariables false
set_option linter.unusedSimpArgs false

structure Pt where
  x : Int
  y : Int
  id : Int
def aheadP (p q : Pt) : Prop := p.x < q.x ∨ (p.x = q.x ∧ p.id < q.id)
def aboveP (p q : Pt) : Prop := q.y < p.y ∨ (q.y = p.y ∧ aheadP p q)
instance (p q : Pt) : Decidable (aheadP p q) := by unfold aheadP; infer_instance
instance (p q : Pt) : Decidable (aboveP p q) := by unfold aboveP; infer_instance
/-- A tree: its top, its fork, what lies left and right. -/
inductive PT where
  | nil
  | node (p f : Pt) (l r : PT)
def PT.pts : PT → List Pt
  | .nil => []
  | .node p _ l r => p :: (l.pts ++ r.pts)
def PT.size : PT → Nat
  | .nil => 0
  | .node _ _ l r => l.size + r.size + 1
theorem PT.length_pts : ∀ t : PT, t.pts.length = t.size
  | .nil => rfl
  | .node p f l r => by simp only [PT.pts, PT.size, List.length_cons, List.length_append, l.length_pts, r.length_pts]
def PT.Ok : PT → Prop
  | .nil => True
  | .node p f l r => (∀ q ∈ l.pts ++ r.pts, ¬ aboveP q p) ∧ (∀ q ∈ l.pts, aheadP q f) ∧ (∀ q ∈ r.pts, ¬ aheadP q f) ∧ l.Ok ∧ r.Ok
/-- What is asked for. -/
def withinP (lo hi le : Int) (p : Pt) : Bool := decide (lo ≤ p.x) && decide (p.x ≤ hi) && decide (le ≤ p.y)
theorem aheadP_trans {p q r : Pt} (h1 : aheadP p q) (h2 : aheadP q r) : aheadP p r := by unfold aheadP at *; omega
theorem aboveP_irrefl (p : Pt) : ¬ aboveP p p := by unfold aboveP aheadP; omega
theorem aboveP_ntrans {p q r : Pt} (h1 : ¬ aboveP p q) (h2 : ¬ aboveP q r) : ¬ aboveP p r := by unfold aboveP aheadP at *; omega
theorem aboveP_asymm {p q : Pt} (h : aboveP p q) : ¬ aboveP q p := by unfold aboveP aheadP at *; omega
theorem aheadP_ntrans {p q r : Pt} (h1 : ¬ aheadP p q) (h2 : ¬ aheadP q r) : ¬ aheadP p r := by unfold aheadP at *; omega
theorem filter_none {l : List Pt} {f : Pt → Bool} (h : ∀ q ∈ l, f q = false) : l.filter f = [] := by
  rw [List.filter_eq_nil_iff]
  intro q hq
  rw [h q hq]
  exact Bool.false_ne_true
/-- What find may leave out. -/
theorem find_low {p f : Pt} {l r : PT} (h : (PT.node p f l r).Ok) (lo hi le : Int) (hy : p.y < le) : (PT.node p f l r).pts.filter (withinP lo hi le) = [] := by
  refine filter_none fun q hq => ?_
  have hq' : q.y ≤ p.y := by
    rcases List.mem_cons.1 hq with h1 | h1
    · subst h1; exact Int.le_refl _
    · have := h.1 q h1
      unfold aboveP at this
      omega
  unfold withinP
  have : decide (le ≤ q.y) = false := by simp; omega
  rw [this, Bool.and_false]
theorem find_left {p f : Pt} {l r : PT} (h : (PT.node p f l r).Ok) (lo hi le : Int) (hf : ¬ lo ≤ f.x) : l.pts.filter (withinP lo hi le) = [] := by
  refine filter_none fun q hq => ?_
  have h1 := h.2.1 q hq
  unfold aheadP at h1
  unfold withinP
  have : decide (lo ≤ q.x) = false := by simp; omega
  rw [this, Bool.false_and, Bool.false_and]
theorem find_right {p f : Pt} {l r : PT} (h : (PT.node p f l r).Ok) (lo hi le : Int) (hf : ¬ f.x ≤ hi) : r.pts.filter (withinP lo hi le) = [] := by
  refine filter_none fun q hq => ?_
  have h1 := h.2.2.1 q hq
  unfold aheadP at h1
  unfold withinP
  have : decide (q.x ≤ hi) = false := by simp; omega
  rw [this, Bool.and_false, Bool.false_and]
/-- One more to the left, or to the right; the higher of it and the top is the top. -/
theorem ok_add {p t f : Pt} {l r l' : PT} (left : Bool) (h : (PT.node t f l r).Ok) (hl' : l'.Ok) (q s : Pt) (hqs : (aboveP p t ∧ q = p ∧ s = t) ∨ (¬ aboveP p t ∧ q = t ∧ s = p))
    (hside : left = decide (aheadP s f)) (hp : l'.pts.Perm (s :: (if left then l.pts else r.pts))) :
    (if left then PT.node q f l' r else PT.node q f l l').Ok ∧ (if left then PT.node q f l' r else PT.node q f l l').pts.Perm (p :: (PT.node t f l r).pts) := by
  obtain ⟨h1, h2, h3, h4, h5⟩ := h
  have hab : ∀ z, z = s ∨ z ∈ l.pts ++ r.pts → ¬ aboveP z q := by
    intro z hz
    rcases hqs with ⟨ha, rfl, rfl⟩ | ⟨ha, rfl, rfl⟩
    · rcases hz with hz | hz
      · subst hz; exact aboveP_asymm ha
      · exact aboveP_ntrans (h1 z hz) (aboveP_asymm ha)
    · rcases hz with hz | hz
      · subst hz; exact ha
      · exact h1 z hz
  have hswap : (q :: s :: (l.pts ++ r.pts)).Perm (p :: t :: (l.pts ++ r.pts)) := by
    rcases hqs with ⟨ha, rfl, rfl⟩ | ⟨ha, rfl, rfl⟩
    · exact List.Perm.refl _
    · exact List.Perm.swap _ _ _
  cases left with
  | true =>
    simp only [if_true] at hp ⊢
    have hs : aheadP s f := of_decide_eq_true hside.symm
    refine ⟨⟨fun z hz => ?_, fun z hz => ?_, h3, hl', h5⟩, ?_⟩
    · rcases List.mem_append.1 hz with hz | hz
      · rcases List.mem_cons.1 (hp.mem_iff.1 hz) with h | h
        · exact hab z (.inl h)
        · exact hab z (.inr (List.mem_append.2 (.inl h)))
      · exact hab z (.inr (List.mem_append.2 (.inr hz)))
    · rcases List.mem_cons.1 (hp.mem_iff.1 hz) with h | h
      · subst h; exact hs
      · exact h2 z h
    · simp only [PT.pts]
      refine List.Perm.trans ((hp.append_right r.pts).cons q) ?_
      simpa using hswap
  | false =>
    simp only [Bool.false_eq_true, if_false] at hp ⊢
    have hs : ¬ aheadP s f := of_decide_eq_false hside.symm
    refine ⟨⟨fun z hz => ?_, h2, fun z hz => ?_, h4, hl'⟩, ?_⟩
    · rcases List.mem_append.1 hz with hz | hz
      · exact hab z (.inr (List.mem_append.2 (.inl hz)))
      · rcases List.mem_cons.1 (hp.mem_iff.1 hz) with h | h
        · exact hab z (.inl h)
        · exact hab z (.inr (List.mem_append.2 (.inr h)))
    · rcases List.mem_cons.1 (hp.mem_iff.1 hz) with h | h
      · subst h; exact hs
      · exact h3 z h
    · simp only [PT.pts]
      refine List.Perm.trans ((hp.append_left l.pts).cons q) ?_
      refine List.Perm.trans (List.Perm.cons q (List.perm_middle)) ?_
      exact hswap
end Go.Proofs.YtigkinakhijfoaaGreat.Ps

/- order, above, side, weight. -/
namespace Go.Proofs.YtigkinakhijfoaaGreat.Ps
open Go.RowKit Go.Sort
set_option maxRecDepth 100000
set_option linter.unusedVariables false
set_option linter.unusedSimpArgs false

def Pt.agg (p : Pt) : Value := .agg #[.int .i64 p.x, .int .i64 p.y, .int .i64 p.id]
def ptc (p : Pt) : List Value := [.int .i64 p.x, .int .i64 p.y, .int .i64 p.id]
def orI (a b : Int) : Int := if a = 0 then b else a
def ordI (p q : Pt) : Int := orI (Lib.compareInt p.x q.x) (Lib.compareInt p.id q.id)
theorem ordI_neg (p q : Pt) : ordI p q < 0 ↔ aheadP p q := by
  unfold ordI orI Lib.compareInt aheadP
  by_cases h1 : p.x < q.x
  · simp [h1]
  · by_cases h2 : q.x < p.x
    · simp [h1, h2]; omega
    · have h3 : p.x = q.x := by omega
      by_cases h4 : p.id < q.id
      · simp [h3, h4]
      · by_cases h5 : q.id < p.id
        · simp [h3, h4, h5]
        · simp [h3, h4, h5]
theorem aboveI (p q : Pt) : orI (Lib.compareInt q.y p.y) (ordI p q) < 0 ↔ aboveP p q := by
  rw [aboveP, ← ordI_neg]
  unfold orI Lib.compareInt
  by_cases h1 : q.y < p.y
  · simp [h1]
  · by_cases h2 : p.y < q.y
    · simp [h1, h2]; omega
    · have h3 : p.y = q.y := by omega
      simp [h3]
theorem isNaN43 (x : Int) (w : World) : Calls Tryz.prog 82 #[.int .i64 x] w fun e w' => e = .returned (.bool false) ∧ w' = w := by
  go_enter Tryz.func82, Tryz.ntmps82
  go_wp2
  go_ret
  exact ⟨rfl, rfl⟩
theorem compare28 (x y : Int) (w : World) : Calls Tryz.prog 47 #[.int .i64 x, .int .i64 y] w fun e w' => e = .returned (.int .i64 (Lib.compareInt x y)) ∧ w' = w := by
  have HN := hide (fun z W => isNaN43 z W)
  have h1 : x < y → Lib.compareInt x y = -1 := fun h => by unfold Lib.compareInt; simp [h]
  have h2 : ¬ x < y → y < x → Lib.compareInt x y = 1 := fun h g => by unfold Lib.compareInt; simp [h, g]
  have h3 : ¬ x < y → ¬ y < x → Lib.compareInt x y = 0 := fun h g => by unfold Lib.compareInt; simp [h, g]
  generalize Lib.compareInt x y = r at *
  by_cases hlt : x < y
  · obtain rfl := h1 hlt
    clear h1 h2 h3
    go_enter Tryz.func47, Tryz.ntmps47
    go_wp2_with (go_at_call 82; refine (HN.out _ _).mono ?_; rintro e w' ⟨rfl, hV⟩; obtain rfl := hV.symm; clear hV)
    go_ret
    exact ⟨rfl, rfl⟩
  · by_cases hgt : y < x
    · obtain rfl := h2 hlt hgt
      clear h1 h2 h3
      go_enter Tryz.func47, Tryz.ntmps47
      go_wp2_with (go_at_call 82; refine (HN.out _ _).mono ?_; rintro e w' ⟨rfl, hV⟩; obtain rfl := hV.symm; clear hV)
      go_ret
      exact ⟨rfl, rfl⟩
    · obtain rfl := h3 hlt hgt
      clear h1 h2 h3
      go_enter Tryz.func47, Tryz.ntmps47
      go_wp2_with (go_at_call 82; refine (HN.out _ _).mono ?_; rintro e w' ⟨rfl, hV⟩; obtain rfl := hV.symm; clear hV)
      go_ret
      exact ⟨rfl, rfl⟩
def Same (w w' : World) : Prop := w' = w
set_option maxHeartbeats 2000000 in
theorem or_any (w : World) (g : Nat) (a b : Int) (h0 : w.cell? ⟨g, 0, none⟩ = some (.int .i64 a)) (h1 : w.cell? ⟨g, 1, none⟩ = some (.int .i64 b)) : Calls Tryz.prog 46 #[.slice (some ⟨g, 0, none⟩) 2 2] w fun e w' => e = .returned (.int .i64 (orI a b)) ∧ w' = w := by
  go_enter Tryz.func46, Tryz.ntmps46
  go_wp2
  go_loopw [8] (fun i wr => ∃ j : Nat, j ≤ 2 ∧ i = .int .i64 (j : Int) ∧ (1 ≤ j → a = 0) ∧ (2 ≤ j → b = 0) ∧ Same w wr) (fun i _ => 2 - (intOf i).toNat)
  case atStart => exact ⟨0, by omega, rfl, (fun h => by omega), (fun h => by omega), rfl⟩
  case round =>
    rename World => W1
    obtain ⟨j, hj, rfl, ha, hb, hw⟩ := hrel
    unfold Same at hw
    subst hw
    have hc : j = 0 ∨ j = 1 ∨ j = 2 := by omega
    rcases hc with rfl | rfl | rfl
    · by_cases hz : a = 0
      · subst hz
        go_wp2
        go_roundw
        case rel => exact ⟨1, by omega, by go_num, by simp, by simp, rfl⟩
        case measure => simp [intOf]
      · have hz1 : (a != 0) = true := by simp [hz]
        go_wp2
        go_ret
        exact ⟨by rw [orI, if_neg hz]; rfl, rfl⟩
    · obtain rfl := ha (by omega)
      by_cases hz : b = 0
      · subst hz
        go_wp2
        go_roundw
        case rel => exact ⟨2, by omega, by go_num, by simp, by simp, rfl⟩
        case measure => simp [intOf]
      · have hz1 : (b != 0) = true := by simp [hz]
        go_wp2
        go_ret
        exact ⟨rfl, rfl⟩
    · obtain rfl := ha (by omega)
      obtain rfl := hb (by omega)
      go_wp2
      go_ret
      exact ⟨rfl, rfl⟩
set_option maxHeartbeats 4000000 in
theorem order_grow (p q : Pt) (w : World) : Calls Tryz.prog 27 #[p.agg, q.agg] w fun e w' => e = .returned (.int .i64 (ordI p q)) ∧ ∃ n os', w' = grow (w.drewN n) os' := by
  unfold Pt.agg ordI
  have HC1 := hide (fun W => compare28 p.x q.x W)
  have HC2 := hide (fun W => compare28 p.id q.id W)
  generalize Lib.compareInt p.x q.x = r1 at *
  generalize Lib.compareInt p.id q.id = r2 at *
  obtain ⟨A, hA⟩ : ∃ A : Obj, A = .cells #[.int .i64 p.x, .int .i64 p.y, .int .i64 p.id] 35 := ⟨_, rfl⟩
  obtain ⟨B, hB⟩ : ∃ B : Obj, B = .cells #[.int .i64 q.x, .int .i64 q.y, .int .i64 q.id] 35 := ⟨_, rfl⟩
  have b1 := heap_alloc_new w A
  have b2 := heap_alloc_new (w.alloc A) B
  have hz : (w.alloc A).heap.size = w.heap.size + 1 := by simp
  rw [hz] at b2
  have b1' : ((w.alloc A).alloc B).heap[w.heap.size]? = some A := by rw [(Fr.alloc (w.alloc A) B (fun _ => False)).block _ (by omega) (fun h => h)]; exact b1
  have hS : (fun U : World => U.cell? ⟨w.heap.size, 0, none⟩ = some (.int .i64 p.x) ∧ U.cell? ⟨w.heap.size, 2, none⟩ = some (.int .i64 p.id) ∧ U.cell? ⟨w.heap.size + 1, 0, none⟩ = some (.int .i64 q.x) ∧ U.cell? ⟨w.heap.size + 1, 2, none⟩ = some (.int .i64 q.id)) ((w.alloc A).alloc B).drew := by
    subst hA hB
    refine ⟨?_, ?_, ?_, ?_⟩
    · exact (cell_of_row _ _ _ _ _ _ b1').trans rfl
    · exact (cell_of_row _ _ _ _ _ _ b1').trans rfl
    · exact (cell_of_row _ _ _ _ _ _ b2).trans rfl
    · exact (cell_of_row _ _ _ _ _ _ b2).trans rfl
  have HG : Hid (∀ C : Obj, ((w.alloc A).alloc B).drew.alloc C = grow (w.drewN 1) #[A, B, C]) := hide (fun C => by
    rw [alloc_eq_grow w A, alloc_eq_grow _ B, alloc_eq_grow _ C]
    have e : (grow (grow w #[A]) #[B]).drew = grow (grow (w.drewN 1) #[A]) #[B] := rfl
    rw [e, grow_grow, grow_grow]
    rfl)
  go_enter Tryz.func27, Tryz.ntmps27
  go_wp2_with fail
  rw [← hA, ← hB]
  refine wp_region_K (fun z => decide (z < 10)) (fun U : World => U.cell? ⟨w.heap.size, 0, none⟩ = some (.int .i64 p.x) ∧ U.cell? ⟨w.heap.size, 2, none⟩ = some (.int .i64 p.id) ∧ U.cell? ⟨w.heap.size + 1, 0, none⟩ = some (.int .i64 q.x) ∧ U.cell? ⟨w.heap.size + 1, 2, none⟩ = some (.int .i64 q.id)) (by kernel_rfl) ?_
  clear b1 b2 hz b1' hA hB
  generalize hU : ((w.alloc A).alloc B).drew = U at *
  clear hU
  refine wpAnyK_takeTo 0 (some 5) (.pointer (some ⟨w.heap.size, 0, none⟩)) [1, 4, 9, 10, 11, 12] rfl rfl (by kernel_rfl) (by kernel_rfl) (by kernel_rfl) (by kernel_rfl) (fun _ _ _ h => h) hS (Or.inl ⟨rfl, fun w1 hw1 => by obtain ⟨q1, q2, q3, q4⟩ := hw1; go_simp⟩) ?_
  simp only [Act.put, List.setIfInBounds_toArray, List.set_cons_zero, List.set_cons_succ]
  refine wpAnyK_takeTo 1 (some 6) (.int .i64 p.x) [4, 9, 10, 11, 12] rfl rfl (by kernel_rfl) (by kernel_rfl) (by kernel_rfl) (by kernel_rfl) (fun _ _ _ h => h) hS (Or.inl ⟨rfl, fun w1 hw1 => by obtain ⟨q1, q2, q3, q4⟩ := hw1; go_simp⟩) ?_
  simp only [Act.put, List.setIfInBounds_toArray, List.set_cons_zero, List.set_cons_succ]
  refine wpAnyK_takeTo 2 (some 7) (.pointer (some ⟨w.heap.size + 1, 0, none⟩)) [3, 4, 9, 10, 11, 12] rfl rfl (by kernel_rfl) (by kernel_rfl) (by kernel_rfl) (by kernel_rfl) (fun _ _ _ h => h) hS (Or.inl ⟨rfl, fun w1 hw1 => by obtain ⟨q1, q2, q3, q4⟩ := hw1; go_simp⟩) ?_
  simp only [Act.put, List.setIfInBounds_toArray, List.set_cons_zero, List.set_cons_succ]
  refine wpAnyK_takeTo 3 (some 8) (.int .i64 q.x) [4, 9, 10, 11, 12] rfl rfl (by kernel_rfl) (by kernel_rfl) (by kernel_rfl) (by kernel_rfl) (fun _ _ _ h => h) hS (Or.inl ⟨rfl, fun w1 hw1 => by obtain ⟨q1, q2, q3, q4⟩ := hw1; go_simp⟩) ?_
  simp only [Act.put, List.setIfInBounds_toArray, List.set_cons_zero, List.set_cons_succ]
  refine wpAnyK_takeTo 5 (some 10) (.pointer (some ⟨w.heap.size, 2, none⟩)) [6, 9, 10, 11, 12] rfl rfl (by kernel_rfl) (by kernel_rfl) (by kernel_rfl) (by kernel_rfl) (fun _ _ _ h => h) hS (Or.inl ⟨rfl, fun w1 hw1 => by obtain ⟨q1, q2, q3, q4⟩ := hw1; go_simp⟩) ?_
  simp only [Act.put, List.setIfInBounds_toArray, List.set_cons_zero, List.set_cons_succ]
  refine wpAnyK_takeTo 6 (some 11) (.int .i64 p.id) [9, 10, 11, 12] rfl rfl (by kernel_rfl) (by kernel_rfl) (by kernel_rfl) (by kernel_rfl) (fun _ _ _ h => h) hS (Or.inl ⟨rfl, fun w1 hw1 => by obtain ⟨q1, q2, q3, q4⟩ := hw1; go_simp⟩) ?_
  simp only [Act.put, List.setIfInBounds_toArray, List.set_cons_zero, List.set_cons_succ]
  refine wpAnyK_takeTo 7 (some 12) (.pointer (some ⟨w.heap.size + 1, 2, none⟩)) [8, 9, 10, 11, 12] rfl rfl (by kernel_rfl) (by kernel_rfl) (by kernel_rfl) (by kernel_rfl) (fun _ _ _ h => h) hS (Or.inl ⟨rfl, fun w1 hw1 => by obtain ⟨q1, q2, q3, q4⟩ := hw1; go_simp⟩) ?_
  simp only [Act.put, List.setIfInBounds_toArray, List.set_cons_zero, List.set_cons_succ]
  refine wpAnyK_takeTo 8 (some 13) (.int .i64 q.id) [9, 10, 11, 12] rfl rfl (by kernel_rfl) (by kernel_rfl) (by kernel_rfl) (by kernel_rfl) (fun _ _ _ h => h) hS (Or.inl ⟨rfl, fun w1 hw1 => by obtain ⟨q1, q2, q3, q4⟩ := hw1; go_simp⟩) ?_
  simp only [Act.put, List.setIfInBounds_toArray, List.set_cons_zero, List.set_cons_succ]
  refine wpAnyK_one (i := 4) (by kernel_rfl) rfl rfl ?_
  refine wp_call_to (some 9) rfl 47 #[.int .i64 p.x, .int .i64 q.x] (by go_simp) (HC1.out _) ?_
  rintro e U1 ⟨rfl, rfl⟩
  refine ⟨_, rfl, fun _ => hS, ?_⟩
  simp only [Act.put, List.setIfInBounds_toArray, List.set_cons_zero, List.set_cons_succ]
  refine wpAnyK_one (i := 9) (by kernel_rfl) rfl rfl ?_
  refine wp_call_to (some 14) rfl 47 #[.int .i64 p.id, .int .i64 q.id] (by go_simp) (HC2.out _) ?_
  rintro e U2 ⟨rfl, rfl⟩
  refine ⟨_, rfl, fun _ => hS, ?_⟩
  simp only [Act.put, List.setIfInBounds_toArray, List.set_cons_zero, List.set_cons_succ]
  refine wpAnyK_one (i := 10) (by kernel_rfl) rfl rfl ?_
  clear hS
  have hn := heap_alloc_new U2 (.cells #[.int .i64 r1, .int .i64 r2] 3)
  go_simp
  refine wpAnyK_one (i := 11) (by kernel_rfl) rfl rfl ?_
  refine wp_call_to (some 16) rfl 46 #[.slice (some ⟨U2.heap.size, 0, none⟩) 2 2] (by go_simp) (or_any _ _ r1 r2 ((cell_of_row _ _ _ _ _ _ hn).trans rfl) ((cell_of_row _ _ _ _ _ _ hn).trans rfl)) ?_
  rintro e U3 ⟨rfl, rfl⟩
  refine ⟨_, rfl, fun h => by simp at h, ?_⟩
  simp only [Act.put, List.setIfInBounds_toArray, List.set_cons_zero, List.set_cons_succ]
  refine wpAnyK_one (i := 12) (by kernel_rfl) rfl rfl ?_
  go_simp
  refine wpAnyK_done (by kernel_rfl) ?_ _
  go_wp2
  go_ret
  exact ⟨rfl, 1, _, HG.out _⟩
end Go.Proofs.YtigkinakhijfoaaGreat.Ps

/- above, side, weight; a tree in memory. -/
namespace Go.Proofs.YtigkinakhijfoaaGreat.Ps
open Go.RowKit Go.Sort
set_option maxRecDepth 100000
set_option linter.unusedVariables false
set_option linter.unusedSimpArgs false

theorem _root_.Go.Proofs.YtigkinakhijfoaaGreat.Fr.ofGrow {w w' : World} {n : Nat} {os : Array Obj} (h : w' = grow (w.drewN n) os) : Fr w w' (fun _ => False) := by
  subst h
  refine ⟨rfl, rfl, rfl, ?_, fun k hk _ => ?_⟩
  · show w.heap.size ≤ (w.heap ++ os).size
    rw [Array.size_append]; omega
  · show (w.heap ++ os)[k]? = _
    rw [Array.getElem?_append_left hk]
theorem order_any (p q : Pt) (w : World) : Calls Tryz.prog 27 #[p.agg, q.agg] w fun e w' => e = .returned (.int .i64 (ordI p q)) ∧ Fr w w' (fun _ => False) :=
  (order_grow p q w).mono fun e w' ⟨h1, n, os, h2⟩ => ⟨h1, Fr.ofGrow h2⟩
/-- A point's cells at a place. -/
def PtAt (w : World) (g o : Nat) (p : Pt) : Prop := w.cell? ⟨g, o, none⟩ = some (.int .i64 p.x) ∧ w.cell? ⟨g, o + 1, none⟩ = some (.int .i64 p.y) ∧ w.cell? ⟨g, o + 2, none⟩ = some (.int .i64 p.id)
theorem _root_.Go.Proofs.YtigkinakhijfoaaGreat.Fr.cell' {w w' : World} {X : Nat → Prop} (hf : Fr w w' X) {g o : Nat} {v : Value} (hx : ¬ X g) (h : w.cell? ⟨g, o, none⟩ = some v) : w'.cell? ⟨g, o, none⟩ = some v := by
  have hlt := World.block_lt_of_cell? w _ h
  unfold World.cell? at *
  rw [hf.block g hlt hx]
  exact h
theorem PtAt.fr {w w' : World} {X : Nat → Prop} {g o : Nat} {p : Pt} (h : PtAt w g o p) (hf : Fr w w' X) (hx : ¬ X g) : PtAt w' g o p := ⟨hf.cell' hx h.1, hf.cell' hx h.2.1, hf.cell' hx h.2.2⟩
theorem box_pt (w : World) (p : Pt) : PtAt (w.alloc (.cells #[.int .i64 p.x, .int .i64 p.y, .int .i64 p.id] 35)) w.heap.size 0 p := by
  have b := heap_alloc_new w (.cells #[.int .i64 p.x, .int .i64 p.y, .int .i64 p.id] 35)
  exact ⟨(cell_of_row _ _ _ _ _ _ b).trans rfl, (cell_of_row _ _ _ _ _ _ b).trans rfl, (cell_of_row _ _ _ _ _ _ b).trans rfl⟩
set_option maxHeartbeats 4000000 in
theorem above_any (p q : Pt) (w : World) : Calls Tryz.prog 34 #[p.agg, q.agg] w fun e w' => e = .returned (.bool (decide (aboveP p q))) ∧ Fr w w' (fun _ => False) := by
  have HC1 := hide (fun W => compare28 q.y p.y W)
  have HC2 := hide (fun W => order_any p q W)
  have hab : decide (orI (Lib.compareInt q.y p.y) (ordI p q) < 0) = decide (aboveP p q) := decide_eq_decide.2 (aboveI p q)
  generalize decide (aboveP p q) = R at *
  generalize Lib.compareInt q.y p.y = r1 at *
  generalize ordI p q = r2 at *
  unfold Pt.agg at *
  have P1 := (box_pt w p).fr (Fr.alloc _ (.cells #[.int .i64 q.x, .int .i64 q.y, .int .i64 q.id] 35) (fun _ => False)) (fun h => h)
  have P2 := box_pt (w.alloc (.cells #[.int .i64 p.x, .int .i64 p.y, .int .i64 p.id] 35)) q
  have hz : (w.alloc (.cells #[.int .i64 p.x, .int .i64 p.y, .int .i64 p.id] 35)).heap.size = w.heap.size + 1 := by simp
  rw [hz] at P2
  have F0 := ((Fr.alloc w (.cells #[.int .i64 p.x, .int .i64 p.y, .int .i64 p.id] 35) (fun _ => False)).trans (Fr.alloc _ (.cells #[.int .i64 q.x, .int .i64 q.y, .int .i64 q.id] 35) (fun _ => False))).mono (Y := fun _ => False) (fun _ _ h => h.elim id id)
  have HS0 := hide (And.intro P1 P2)
  have HF0 := hide F0
  clear P1 P2 hz F0
  go_enter Tryz.func34, Tryz.ntmps34
  go_wp2_with fail
  refine wp_region_K (fun z => decide (z < 7)) (fun U : World => PtAt U w.heap.size 0 p ∧ PtAt U (w.heap.size + 1) 0 q) (by kernel_rfl) ?_
  have hS : (fun U : World => PtAt U w.heap.size 0 p ∧ PtAt U (w.heap.size + 1) 0 q) ((w.alloc (.cells #[.int .i64 p.x, .int .i64 p.y, .int .i64 p.id] 35)).alloc (.cells #[.int .i64 q.x, .int .i64 q.y, .int .i64 q.id] 35)).drew := ⟨HS0.out.1.fr (Fr.drew _ (fun _ => False)) (fun h => h), HS0.out.2.fr (Fr.drew _ (fun _ => False)) (fun h => h)⟩
  have HF1 := hide ((HF0.out.trans (Fr.drew _ (fun _ => False))).mono (Y := fun _ => False) (fun _ _ h => h.elim id id))
  clear HS0 HF0
  generalize ((w.alloc (.cells #[.int .i64 p.x, .int .i64 p.y, .int .i64 p.id] 35)).alloc (.cells #[.int .i64 q.x, .int .i64 q.y, .int .i64 q.id] 35)).drew = U at *
  refine wpAnyK_takeTo 0 (some 5) (.pointer (some ⟨w.heap.size + 1, 1, none⟩)) [1, 4, 7, 8, 9, 10, 11] rfl rfl (by kernel_rfl) (by kernel_rfl) (by kernel_rfl) (by kernel_rfl) (fun _ _ _ h => h) hS (Or.inl ⟨rfl, fun w1 hw1 => by obtain ⟨⟨q1, q2, q3⟩, q4, q5, q6⟩ := hw1; go_simp⟩) ?_
  simp only [Act.put, List.setIfInBounds_toArray, List.set_cons_zero, List.set_cons_succ]
  refine wpAnyK_takeTo 1 (some 6) (.int .i64 q.y) [4, 7, 8, 9, 10, 11] rfl rfl (by kernel_rfl) (by kernel_rfl) (by kernel_rfl) (by kernel_rfl) (fun _ _ _ h => h) hS (Or.inl ⟨rfl, fun w1 hw1 => by obtain ⟨⟨q1, q2, q3⟩, q4, q5, q6⟩ := hw1; go_simp⟩) ?_
  simp only [Act.put, List.setIfInBounds_toArray, List.set_cons_zero, List.set_cons_succ]
  refine wpAnyK_takeTo 2 (some 7) (.pointer (some ⟨w.heap.size, 1, none⟩)) [3, 4, 7, 8, 9, 10, 11] rfl rfl (by kernel_rfl) (by kernel_rfl) (by kernel_rfl) (by kernel_rfl) (fun _ _ _ h => h) hS (Or.inl ⟨rfl, fun w1 hw1 => by obtain ⟨⟨q1, q2, q3⟩, q4, q5, q6⟩ := hw1; go_simp⟩) ?_
  simp only [Act.put, List.setIfInBounds_toArray, List.set_cons_zero, List.set_cons_succ]
  refine wpAnyK_takeTo 3 (some 8) (.int .i64 p.y) [4, 7, 8, 9, 10, 11] rfl rfl (by kernel_rfl) (by kernel_rfl) (by kernel_rfl) (by kernel_rfl) (fun _ _ _ h => h) hS (Or.inl ⟨rfl, fun w1 hw1 => by obtain ⟨⟨q1, q2, q3⟩, q4, q5, q6⟩ := hw1; go_simp⟩) ?_
  simp only [Act.put, List.setIfInBounds_toArray, List.set_cons_zero, List.set_cons_succ]
  refine wpAnyK_takeTo 5 (some 10) (.agg #[.int .i64 p.x, .int .i64 p.y, .int .i64 p.id]) [7, 8, 9, 10, 11] rfl rfl (by kernel_rfl) (by kernel_rfl) (by kernel_rfl) (by kernel_rfl) (fun _ _ _ h => h) hS (Or.inl ⟨rfl, fun w1 hw1 => by obtain ⟨⟨q1, q2, q3⟩, q4, q5, q6⟩ := hw1; go_simp⟩) ?_
  simp only [Act.put, List.setIfInBounds_toArray, List.set_cons_zero, List.set_cons_succ]
  refine wpAnyK_takeTo 6 (some 11) (.agg #[.int .i64 q.x, .int .i64 q.y, .int .i64 q.id]) [7, 8, 9, 10, 11] rfl rfl (by kernel_rfl) (by kernel_rfl) (by kernel_rfl) (by kernel_rfl) (fun _ _ _ h => h) hS (Or.inl ⟨rfl, fun w1 hw1 => by obtain ⟨⟨q1, q2, q3⟩, q4, q5, q6⟩ := hw1; go_simp⟩) ?_
  simp only [Act.put, List.setIfInBounds_toArray, List.set_cons_zero, List.set_cons_succ]
  refine wpAnyK_one (i := 4) (by kernel_rfl) rfl rfl ?_
  refine wp_call_to (some 9) rfl 47 #[.int .i64 q.y, .int .i64 p.y] (by go_simp) (HC1.out _) ?_
  rintro e U1 ⟨rfl, rfl⟩
  refine ⟨_, rfl, fun _ => hS, ?_⟩
  simp only [Act.put, List.setIfInBounds_toArray, List.set_cons_zero, List.set_cons_succ]
  refine wpAnyK_one (i := 7) (by kernel_rfl) rfl rfl ?_
  refine wp_call_to (some 12) rfl 27 #[.agg #[.int .i64 p.x, .int .i64 p.y, .int .i64 p.id], .agg #[.int .i64 q.x, .int .i64 q.y, .int .i64 q.id]] (by go_simp) (HC2.out _) ?_
  rintro e U2 ⟨rfl, f2⟩
  refine ⟨_, rfl, fun h => by simp at h, ?_⟩
  simp only [Act.put, List.setIfInBounds_toArray, List.set_cons_zero, List.set_cons_succ]
  have HF2 := hide ((HF1.out.trans f2).mono (Y := fun _ => False) (fun _ _ h => h.elim id id))
  clear hS HF1 f2
  refine wpAnyK_one (i := 8) (by kernel_rfl) rfl rfl ?_
  have hn := heap_alloc_new U2 (.cells #[.int .i64 r1, .int .i64 r2] 3)
  have HF3 := hide ((HF2.out.trans (Fr.alloc U2 (.cells #[.int .i64 r1, .int .i64 r2] 3) (fun _ => False))).mono (Y := fun _ => False) (fun _ _ h => h.elim id id))
  go_simp
  refine wpAnyK_one (i := 9) (by kernel_rfl) rfl rfl ?_
  refine wp_call_to (some 14) rfl 46 #[.slice (some ⟨U2.heap.size, 0, none⟩) 2 2] (by go_simp) (or_any _ _ r1 r2 ((cell_of_row _ _ _ _ _ _ hn).trans rfl) ((cell_of_row _ _ _ _ _ _ hn).trans rfl)) ?_
  rintro e U3 ⟨rfl, rfl⟩
  refine ⟨_, rfl, fun h => by simp at h, ?_⟩
  simp only [Act.put, List.setIfInBounds_toArray, List.set_cons_zero, List.set_cons_succ]
  refine wpAnyK_one (i := 10) (by kernel_rfl) rfl rfl ?_
  go_simp
  refine wpAnyK_one (i := 11) (by kernel_rfl) rfl rfl ?_
  go_simp
  refine wpAnyK_done (by kernel_rfl) ?_ _
  go_wp2
  go_ret
  exact ⟨by rw [← hab]; rfl, HF3.out⟩
/-- A node in memory. -/
def NodeAt (w : World) (g : Nat) (p f : Pt) (lv rv : Value) (n : Nat) : Prop := w.heap[g]? = some (.cells #[.int .i64 p.x, .int .i64 p.y, .int .i64 p.id, .int .i64 f.x, .int .i64 f.y, .int .i64 f.id, lv, rv, .int .i64 (n : Int)] 89 (0, 0))
structure NodeC (w : World) (g : Nat) (p f : Pt) (lv rv : Value) (n : Nat) : Prop where
  c0 : w.cell? ⟨g, 0, none⟩ = some (.int .i64 p.x)
  c1 : w.cell? ⟨g, 1, none⟩ = some (.int .i64 p.y)
  c2 : w.cell? ⟨g, 2, none⟩ = some (.int .i64 p.id)
  c3 : w.cell? ⟨g, 3, none⟩ = some (.int .i64 f.x)
  c4 : w.cell? ⟨g, 4, none⟩ = some (.int .i64 f.y)
  c5 : w.cell? ⟨g, 5, none⟩ = some (.int .i64 f.id)
  c6 : w.cell? ⟨g, 6, none⟩ = some lv
  c7 : w.cell? ⟨g, 7, none⟩ = some rv
  c8 : w.cell? ⟨g, 8, none⟩ = some (.int .i64 (n : Int))
theorem NodeAt.c {w : World} {g : Nat} {p f : Pt} {lv rv : Value} {n : Nat} (h : NodeAt w g p f lv rv n) : NodeC w g p f lv rv n :=
  ⟨(cell_of_row _ _ _ _ _ _ h).trans rfl, (cell_of_row _ _ _ _ _ _ h).trans rfl, (cell_of_row _ _ _ _ _ _ h).trans rfl, (cell_of_row _ _ _ _ _ _ h).trans rfl, (cell_of_row _ _ _ _ _ _ h).trans rfl, (cell_of_row _ _ _ _ _ _ h).trans rfl, (cell_of_row _ _ _ _ _ _ h).trans rfl, (cell_of_row _ _ _ _ _ _ h).trans rfl, (cell_of_row _ _ _ _ _ _ h).trans rfl⟩
theorem NodeAt.fr {w w' : World} {X : Nat → Prop} {g : Nat} {p f : Pt} {lv rv : Value} {n : Nat} (h : NodeAt w g p f lv rv n) (hf : Fr w w' X) (hx : ¬ X g) : NodeAt w' g p f lv rv n := by
  unfold NodeAt at *
  rw [hf.block g (Array.getElem?_eq_some_iff.1 h).1 hx]
  exact h
theorem NodeC.fr {w w' : World} {X : Nat → Prop} {g : Nat} {p f : Pt} {lv rv : Value} {n : Nat} (h : NodeC w g p f lv rv n) (hf : Fr w w' X) (hx : ¬ X g) : NodeC w' g p f lv rv n :=
  ⟨hf.cell' hx h.c0, hf.cell' hx h.c1, hf.cell' hx h.c2, hf.cell' hx h.c3, hf.cell' hx h.c4, hf.cell' hx h.c5, hf.cell' hx h.c6, hf.cell' hx h.c7, hf.cell' hx h.c8⟩
theorem NodeAt.frozen {w : World} {g : Nat} {p f : Pt} {lv rv : Value} {n : Nat} (h : NodeAt w g p f lv rv n) (j : Nat) : w.frozen? ⟨g, j, none⟩ = false := by
  unfold NodeAt at h
  simp [World.frozen?, h]
/-- A tree in memory; S: its blocks. -/
def TreeAt (w : World) (base : Nat) : PT → Value → (Nat → Prop) → Prop
  | .nil, v, S => v = .pointer none ∧ ∀ k, ¬ S k
  | .node p f l r, v, S => ∃ (g : Nat) (lv rv : Value) (Sl Sr : Nat → Prop), v = .pointer (some ⟨g, 0, none⟩) ∧ base ≤ g ∧ NodeAt w g p f lv rv (l.size + r.size + 1) ∧ TreeAt w base l lv Sl ∧ TreeAt w base r rv Sr ∧ ¬ Sl g ∧ ¬ Sr g ∧ (∀ k, Sl k → ¬ Sr k) ∧ ∀ k, S k ↔ (k = g ∨ Sl k ∨ Sr k)
theorem TreeAt.fr {w w' : World} {base : Nat} {X : Nat → Prop} (hf : Fr w w' X) : ∀ {t : PT} {v : Value} {S : Nat → Prop}, TreeAt w base t v S → (∀ k, S k → ¬ X k) → TreeAt w' base t v S
  | .nil, v, S, h, hx => h
  | .node p f l r, v, S, h, hx => by
    obtain ⟨g, lv, rv, Sl, Sr, h1, h2, h3, h4, h5, h6, h7, h8, h9⟩ := h
    exact ⟨g, lv, rv, Sl, Sr, h1, h2, h3.fr hf (hx g ((h9 g).2 (.inl rfl))), TreeAt.fr hf h4 (fun k hk => hx k ((h9 k).2 (.inr (.inl hk)))), TreeAt.fr hf h5 (fun k hk => hx k ((h9 k).2 (.inr (.inr hk)))), h6, h7, h8, h9⟩
theorem TreeAt.lt {w : World} {base : Nat} : ∀ {t : PT} {v : Value} {S : Nat → Prop}, TreeAt w base t v S → ∀ k, S k → base ≤ k ∧ k < w.heap.size
  | .nil, v, S, h, k, hk => absurd hk (h.2 k)
  | .node p f l r, v, S, h, k, hk => by
    obtain ⟨g, lv, rv, Sl, Sr, h1, h2, h3, h4, h5, h6, h7, h8, h9⟩ := h
    rcases (h9 k).1 hk with rfl | hk | hk
    · exact ⟨h2, (Array.getElem?_eq_some_iff.1 h3).1⟩
    · exact TreeAt.lt h4 k hk
    · exact TreeAt.lt h5 k hk
theorem weight_any {w : World} {base : Nat} {t : PT} {v : Value} {S : Nat → Prop} (h : TreeAt w base t v S) : Calls Tryz.prog 60 #[v] w fun e w' => e = .returned (.int .i64 (t.size : Int)) ∧ w' = w := by
  cases t with
  | nil =>
    obtain ⟨rfl, _⟩ := h
    go_enter Tryz.func60, Tryz.ntmps60
    go_wp2
    go_ret
    exact ⟨rfl, rfl⟩
  | node p f l r =>
    obtain ⟨g, lv, rv, Sl, Sr, rfl, _, h3, _⟩ := h
    obtain ⟨c0, c1, c2, c3, c4, c5, c6, c7, c8⟩ := h3.c
    clear h3
    show Calls Tryz.prog 60 _ w fun e w' => e = .returned (.int .i64 ((l.size + r.size + 1 : Nat) : Int)) ∧ w' = w
    generalize l.size + r.size + 1 = n at *
    go_enter Tryz.func60, Tryz.ntmps60
    go_wp2
    go_ret
    exact ⟨rfl, rfl⟩
set_option maxHeartbeats 4000000 in
theorem side_any {w : World} {g : Nat} {t f : Pt} {lv rv : Value} {n : Nat} (h : NodeAt w g t f lv rv n) (p : Pt) : Calls Tryz.prog 35 #[.pointer (some ⟨g, 0, none⟩), p.agg] w fun e w' => e = .returned (.pointer (some ⟨g, if aheadP p f then 6 else 7, none⟩)) ∧ Fr w w' (fun _ => False) := by
  have HC2 := hide (fun W => order_any p f W)
  have hab : decide (ordI p f < 0) = decide (aheadP p f) := decide_eq_decide.2 (ordI_neg p f)
  generalize ordI p f = r2 at *
  unfold Pt.agg at *
  have hlt := (Array.getElem?_eq_some_iff.1 h).1
  have P1 := box_pt w p
  have F0 := Fr.alloc w (.cells #[.int .i64 p.x, .int .i64 p.y, .int .i64 p.id] 35) (fun _ => False)
  have hc := h.c.fr F0 (fun h => h)
  have HS0 := hide (And.intro P1 hc)
  have HF0 := hide F0
  clear P1 F0 hc h
  go_enter Tryz.func35, Tryz.ntmps35
  go_wp2_with fail
  refine wp_region_K (fun z => decide (z < 5)) (fun U : World => PtAt U w.heap.size 0 p ∧ NodeC U g t f lv rv n) (by kernel_rfl) ?_
  have hS : (fun U : World => PtAt U w.heap.size 0 p ∧ NodeC U g t f lv rv n) (w.alloc (.cells #[.int .i64 p.x, .int .i64 p.y, .int .i64 p.id] 35)).drew := ⟨HS0.out.1.fr (Fr.drew _ (fun _ => False)) (fun h => h), HS0.out.2.fr (Fr.drew _ (fun _ => False)) (fun h => h)⟩
  have HF1 := hide ((HF0.out.trans (Fr.drew _ (fun _ => False))).mono (Y := fun _ => False) (fun _ _ h => h.elim id id))
  clear HS0 HF0
  generalize (w.alloc (.cells #[.int .i64 p.x, .int .i64 p.y, .int .i64 p.id] 35)).drew = U at *
  refine wpAnyK_takeTo 0 (some 5) (.agg #[.int .i64 p.x, .int .i64 p.y, .int .i64 p.id]) [5, 6] rfl rfl (by kernel_rfl) (by kernel_rfl) (by kernel_rfl) (by kernel_rfl) (fun _ _ _ h => h) hS (Or.inl ⟨rfl, fun w1 hw1 => by obtain ⟨⟨q1, q2, q3⟩, ⟨c0, c1, c2, c3, c4, c5, c6, c7, c8⟩⟩ := hw1; go_simp⟩) ?_
  simp only [Act.put, List.setIfInBounds_toArray, List.set_cons_zero, List.set_cons_succ]
  refine wpAnyK_takeTo 1 (some 6) (.pointer (some ⟨g, 0, none⟩)) [2, 3, 4, 5, 6] rfl rfl (by kernel_rfl) (by kernel_rfl) (by kernel_rfl) (by kernel_rfl) (fun _ _ _ h => h) hS (Or.inl ⟨rfl, fun w1 hw1 => by obtain ⟨⟨q1, q2, q3⟩, ⟨c0, c1, c2, c3, c4, c5, c6, c7, c8⟩⟩ := hw1; go_simp⟩) ?_
  simp only [Act.put, List.setIfInBounds_toArray, List.set_cons_zero, List.set_cons_succ]
  refine wpAnyK_takeTo 2 (some 7) (.pointer (some ⟨g, 0, none⟩)) [3, 4, 5, 6] rfl rfl (by kernel_rfl) (by kernel_rfl) (by kernel_rfl) (by kernel_rfl) (fun _ _ _ h => h) hS (Or.inl ⟨rfl, fun w1 hw1 => by obtain ⟨⟨q1, q2, q3⟩, ⟨c0, c1, c2, c3, c4, c5, c6, c7, c8⟩⟩ := hw1; go_simp⟩) ?_
  simp only [Act.put, List.setIfInBounds_toArray, List.set_cons_zero, List.set_cons_succ]
  refine wpAnyK_takeTo 3 (some 8) (.pointer (some ⟨g, 3, none⟩)) [4, 5, 6] rfl rfl (by kernel_rfl) (by kernel_rfl) (by kernel_rfl) (by kernel_rfl) (fun _ _ _ h => h) hS (Or.inl ⟨rfl, fun w1 hw1 => by obtain ⟨⟨q1, q2, q3⟩, ⟨c0, c1, c2, c3, c4, c5, c6, c7, c8⟩⟩ := hw1; go_simp⟩) ?_
  simp only [Act.put, List.setIfInBounds_toArray, List.set_cons_zero, List.set_cons_succ]
  refine wpAnyK_takeTo 4 (some 9) (.agg #[.int .i64 f.x, .int .i64 f.y, .int .i64 f.id]) [5, 6] rfl rfl (by kernel_rfl) (by kernel_rfl) (by kernel_rfl) (by kernel_rfl) (fun _ _ _ h => h) hS (Or.inl ⟨rfl, fun w1 hw1 => by obtain ⟨⟨q1, q2, q3⟩, ⟨c0, c1, c2, c3, c4, c5, c6, c7, c8⟩⟩ := hw1; go_simp⟩) ?_
  simp only [Act.put, List.setIfInBounds_toArray, List.set_cons_zero, List.set_cons_succ]
  refine wpAnyK_one (i := 5) (by kernel_rfl) rfl rfl ?_
  refine wp_call_to (some 10) rfl 27 #[.agg #[.int .i64 p.x, .int .i64 p.y, .int .i64 p.id], .agg #[.int .i64 f.x, .int .i64 f.y, .int .i64 f.id]] (by go_simp) (HC2.out _) ?_
  rintro e U2 ⟨rfl, f2⟩
  refine ⟨_, rfl, fun h => by simp at h, ?_⟩
  simp only [Act.put, List.setIfInBounds_toArray, List.set_cons_zero, List.set_cons_succ]
  have HF2 := hide ((HF1.out.trans f2).mono (Y := fun _ => False) (fun _ _ h => h.elim id id))
  clear hS HF1 f2
  refine wpAnyK_one (i := 6) (by kernel_rfl) rfl rfl ?_
  go_simp
  refine wpAnyK_done (by kernel_rfl) ?_ _
  by_cases ha : aheadP p f
  · have hb : decide (aheadP p f) = true := by simp [ha]
    go_wp2
    go_ret
    exact ⟨rfl, HF2.out⟩
  · have hb : decide (aheadP p f) = false := by simp [ha]
    go_wp2
    go_ret
    exact ⟨rfl, HF2.out⟩
end Go.Proofs.YtigkinakhijfoaaGreat.Ps

/- Rows of points; points, find. -/
namespace Go.Proofs.YtigkinakhijfoaaGreat.Ps
open Go.RowKit Go.Sort
set_option maxRecDepth 100000
set_option linter.unusedVariables false
set_option linter.unusedSimpArgs false

def encPs (L : List Pt) : List Value := L.flatMap ptc
theorem length_encPs (L : List Pt) : (encPs L).length = L.length * 3 := by
  induction L with
  | nil => rfl
  | cons x L ih => simp only [encPs, List.flatMap_cons, List.length_append, List.length_cons] at *; rw [ih]; simp [ptc]; omega
theorem encPs_append (L M : List Pt) : encPs (L ++ M) = encPs L ++ encPs M := by simp [encPs]
def OwnPt (w : World) (v : Value) (L : List Pt) : Prop := w.ownsRow 0 35 3 v L.length (encPs L)
theorem OwnPt.nil (w : World) : OwnPt w (.slice none 0 0) [] := World.ownsRow_nil w 0 35 3
theorem OwnPt.fr {w w' : World} {X : Nat → Prop} {v : Value} {L : List Pt} (h : OwnPt w v L) (hf : Fr w w' X) (hx : ∀ k, v.ownBlock = some k → ¬ X k) : OwnPt w' v L := ownsRow_fr h hf hx
theorem full28 : ∃ i, Tryz.prog.info? 35 = some i ∧ i.zero = some (.agg #[.int .i64 0, .int .i64 0, .int .i64 0]) ∧ i.size = 3 ∧ i.bytes = 24 := by
  have h0 : (Tryz.prog.info? 35).isSome = true := by kernel_rfl
  have h1 : (Tryz.prog.info? 35).bind (·.zero) = some (.agg #[.int .i64 0, .int .i64 0, .int .i64 0]) := by kernel_rfl
  have h2 : (Tryz.prog.info? 35).map (·.size) = some 3 := by kernel_rfl
  have h3 : (Tryz.prog.info? 35).map (·.bytes) = some 24 := by kernel_rfl
  obtain ⟨i, hi⟩ := Option.isSome_iff_exists.1 h0
  rw [hi] at h1 h2 h3
  exact ⟨i, hi, h1, Option.some.inj h2, Option.some.inj h3⟩
/-- A row that is not there before: its block is the old one's, or new. -/
theorem _root_.Go.Proofs.YtigkinakhijfoaaGreat.Fresh.back {w0 w : World} {v v' : Value} (h : Fresh w v v') (hs : w0.heap.size ≤ w.heap.size) {k : Nat} (hk : k < w0.heap.size) (hv : v'.ownBlock = some k) : v.ownBlock = some k := by
  rcases h with h | ⟨q, h1, h2⟩
  · rw [← h]; exact hv
  · rw [h1] at hv; cases hv; omega
theorem _root_.Go.Proofs.YtigkinakhijfoaaGreat.Fresh.ptrans {w w1 : World} {u v x : Value} (h1 : Fresh w u v) (h2 : Fresh w1 v x) (hs : w.heap.size ≤ w1.heap.size) : Fresh w u x := by
  rcases h2 with h2 | ⟨q, h2, h3⟩
  · rcases h1 with h1 | ⟨q, h1, h4⟩
    · exact .inl (h2.trans h1)
    · exact .inr ⟨q, h2.trans h1, h4⟩
  · exact .inr ⟨q, h2, Nat.le_trans hs h3⟩
theorem app_pt {w : World} {v : Value} {L : List Pt} {p : Pt} (hown : OwnPt w v L) (g : Nat) (hp : PtAt w g 0 p) (ty : TypeId) (hn : L.length + 1 ≤ 2199023255552) :
    ∃ v' w', (Builtin.append_ #[40, 40] ty #[v, .slice (some ⟨g, 0, none⟩) 1 1]).run Tryz.prog w = .ok v' w' ∧ OwnPt w' v' (L ++ [p]) ∧ Fr w w' (fun k => v.ownBlock = some k) ∧ Fresh w v v' := by
  obtain ⟨i, hi, hz, hs, hb⟩ := full28
  obtain ⟨v', w', hr, q1, q2, q3⟩ := run_append_gen (P := Tryz.prog) w 40 ty 35 i _ 3 24 Tryz.underlying40 hi hz hs hb rfl (by omega) v L.length (encPs L) hown ⟨g, 0, none⟩ 1 1 (ptc p) rfl (fun j u hu => by
    rw [Addr.add_mid, Nat.zero_add]
    match j, hu with
    | 0, hu => cases hu; exact hp.1
    | 1, hu => cases hu; exact hp.2.1
    | 2, hu => cases hu; exact hp.2.2) (fun u hu => by simp [ptc] at hu; rcases hu with rfl | rfl | rfl <;> rfl) (by unfold maxLen; omega) (by omega)
  refine ⟨v', w', hr, ?_, Fr.grown q2, q3⟩
  unfold OwnPt
  rw [List.length_append, encPs_append]
  simpa [encPs] using q1
theorem TreeAt.ptr {w : World} {base : Nat} {t : PT} {v : Value} {S : Nat → Prop} (h : TreeAt w base t v S) : ∃ a, v = .pointer a := by
  cases t with
  | nil => exact ⟨none, h.1⟩
  | node p f l r => obtain ⟨g, _, _, _, _, h1, _⟩ := h; exact ⟨_, h1⟩
set_option maxHeartbeats 4000000 in
theorem points_any : ∀ (t : PT) (w : World) (base : Nat) (v : Value) (S : Nat → Prop) (h : TreeAt w base t v S) (lv : Value) (L : List Pt) (hL : OwnPt w lv L) (hd : ∀ k, lv.ownBlock = some k → ¬ S k) (hn : L.length + t.size ≤ 2199023255552),
    Calls Tryz.prog 61 #[v, lv] w fun e w' => ∃ lv', e = .returned lv' ∧ OwnPt w' lv' (L ++ t.pts) ∧ Fr w w' (fun k => lv.ownBlock = some k) ∧ Fresh w lv lv' := by
  intro t
  induction t with
  | nil =>
    intro w base v S h lv L hL hd hn
    obtain ⟨rfl, _⟩ := h
    obtain ⟨a, c, rfl⟩ := shape_n hL
    go_enter Tryz.func61, Tryz.ntmps61
    go_wp2
    go_ret
    exact ⟨_, rfl, by simpa [PT.pts] using hL, Fr.refl _ _, .inl rfl⟩
  | node p f l r ihl ihr =>
    intro w base v S h lv L hL hd hn
    obtain ⟨g, cl, cr, Sl, Sr, rfl, hg, hN, hl, hr, d1, d2, d3, hS0⟩ := h
    obtain ⟨la, rfl⟩ := hl.ptr
    obtain ⟨ra, rfl⟩ := hr.ptr
    obtain ⟨a, c, rfl⟩ := shape_n hL
    have hltw : ∀ k, k = g ∨ Sl k ∨ Sr k → k < w.heap.size := fun k hk => by
      rcases hk with rfl | hk | hk
      · exact (Array.getElem?_eq_some_iff.1 hN).1
      · exact (hl.lt k hk).2
      · exact (hr.lt k hk).2
    have HLT := hide hltw
    have HD : Hid (∀ k, (Value.slice a L.length c).ownBlock = some k → ¬ (k = g ∨ Sl k ∨ Sr k)) := hide (fun k hk h => hd k hk ((hS0 k).2 h))
    have hsz : (PT.node p f l r).size = l.size + r.size + 1 := rfl
    rw [hsz] at hn
    have F0 := Fr.drew w (fun _ => False)
    have HLD := hide (hl.fr F0 (fun _ _ h => h))
    have HRD := hide (hr.fr F0 (fun _ _ h => h))
    have HOD := hide (OwnPt.fr hL F0 (fun _ _ h => h))
    have HF0 := hide F0
    have HC := hide (hN.c.fr F0 (fun h => h))
    have HX3 := hide d3
    have HIL := hide ihl
    have HIR := hide ihr
    have HNN := hide hn
    generalize l.size + r.size + 1 = n at HC
    have HLEN1 : Hid ((L ++ [p]).length + l.size ≤ 2199023255552) := hide (by rw [List.length_append]; simp only [List.length_singleton]; omega)
    have HLEN2 : Hid ((L ++ [p] ++ l.pts).length + r.size ≤ 2199023255552) := hide (by rw [List.length_append, List.length_append, PT.length_pts]; simp only [List.length_singleton]; omega)
    clear hltw hd hS0 hsz hl hr hL hN F0 d3 ihl ihr hn
    go_enter Tryz.func61, Tryz.ntmps61
    go_wp2_with fail
    refine wp_region_K (fun z => decide (z < 16)) (fun U : World => NodeC U g p f (.pointer la) (.pointer ra) n) (by kernel_rfl) ?_
    have hS : (fun U : World => NodeC U g p f (.pointer la) (.pointer ra) n) w.drew := HC.out
    clear HC
    generalize w.drew = U at *
    refine wpAnyK_takeTo 0 (some 8) (.pointer (some ⟨g, 0, none⟩)) [1, 2, 3, 16, 17] rfl rfl (by kernel_rfl) (by kernel_rfl) (by kernel_rfl) (by kernel_rfl) (fun _ _ _ h => h) hS (Or.inl ⟨rfl, fun w1 hw1 => by obtain ⟨c0, c1, c2, c3, c4, c5, c6, c7, c8⟩ := hw1; go_simp⟩) ?_
    simp only [Act.put, List.setIfInBounds_toArray, List.set_cons_zero, List.set_cons_succ]
    refine wpAnyK_takeTo 1 (some 9) (.pointer (some ⟨g, 0, none⟩)) [2, 3, 16, 17] rfl rfl (by kernel_rfl) (by kernel_rfl) (by kernel_rfl) (by kernel_rfl) (fun _ _ _ h => h) hS (Or.inl ⟨rfl, fun w1 hw1 => by obtain ⟨c0, c1, c2, c3, c4, c5, c6, c7, c8⟩ := hw1; go_simp⟩) ?_
    simp only [Act.put, List.setIfInBounds_toArray, List.set_cons_zero, List.set_cons_succ]
    refine wpAnyK_takeTo 2 (some 10) (.pointer (some ⟨g, 7, none⟩)) [3, 16, 17] rfl rfl (by kernel_rfl) (by kernel_rfl) (by kernel_rfl) (by kernel_rfl) (fun _ _ _ h => h) hS (Or.inl ⟨rfl, fun w1 hw1 => by obtain ⟨c0, c1, c2, c3, c4, c5, c6, c7, c8⟩ := hw1; go_simp⟩) ?_
    simp only [Act.put, List.setIfInBounds_toArray, List.set_cons_zero, List.set_cons_succ]
    refine wpAnyK_takeTo 3 (some 11) (.pointer ra) [16, 17] rfl rfl (by kernel_rfl) (by kernel_rfl) (by kernel_rfl) (by kernel_rfl) (fun _ _ _ h => h) hS (Or.inl ⟨rfl, fun w1 hw1 => by obtain ⟨c0, c1, c2, c3, c4, c5, c6, c7, c8⟩ := hw1; go_simp⟩) ?_
    simp only [Act.put, List.setIfInBounds_toArray, List.set_cons_zero, List.set_cons_succ]
    refine wpAnyK_takeTo 4 (some 12) (.pointer (some ⟨g, 0, none⟩)) [5, 6, 7, 15, 16, 17] rfl rfl (by kernel_rfl) (by kernel_rfl) (by kernel_rfl) (by kernel_rfl) (fun _ _ _ h => h) hS (Or.inl ⟨rfl, fun w1 hw1 => by obtain ⟨c0, c1, c2, c3, c4, c5, c6, c7, c8⟩ := hw1; go_simp⟩) ?_
    simp only [Act.put, List.setIfInBounds_toArray, List.set_cons_zero, List.set_cons_succ]
    refine wpAnyK_takeTo 5 (some 13) (.pointer (some ⟨g, 0, none⟩)) [6, 7, 15, 16, 17] rfl rfl (by kernel_rfl) (by kernel_rfl) (by kernel_rfl) (by kernel_rfl) (fun _ _ _ h => h) hS (Or.inl ⟨rfl, fun w1 hw1 => by obtain ⟨c0, c1, c2, c3, c4, c5, c6, c7, c8⟩ := hw1; go_simp⟩) ?_
    simp only [Act.put, List.setIfInBounds_toArray, List.set_cons_zero, List.set_cons_succ]
    refine wpAnyK_takeTo 6 (some 14) (.pointer (some ⟨g, 6, none⟩)) [7, 15, 16, 17] rfl rfl (by kernel_rfl) (by kernel_rfl) (by kernel_rfl) (by kernel_rfl) (fun _ _ _ h => h) hS (Or.inl ⟨rfl, fun w1 hw1 => by obtain ⟨c0, c1, c2, c3, c4, c5, c6, c7, c8⟩ := hw1; go_simp⟩) ?_
    simp only [Act.put, List.setIfInBounds_toArray, List.set_cons_zero, List.set_cons_succ]
    refine wpAnyK_takeTo 7 (some 15) (.pointer la) [15, 16, 17] rfl rfl (by kernel_rfl) (by kernel_rfl) (by kernel_rfl) (by kernel_rfl) (fun _ _ _ h => h) hS (Or.inl ⟨rfl, fun w1 hw1 => by obtain ⟨c0, c1, c2, c3, c4, c5, c6, c7, c8⟩ := hw1; go_simp⟩) ?_
    simp only [Act.put, List.setIfInBounds_toArray, List.set_cons_zero, List.set_cons_succ]
    refine wpAnyK_takeTo 8 (some 16) (.slice a L.length c) [14, 15, 16, 17] rfl rfl (by kernel_rfl) (by kernel_rfl) (by kernel_rfl) (by kernel_rfl) (fun _ _ _ h => h) hS (Or.inl ⟨rfl, fun w1 hw1 => by obtain ⟨c0, c1, c2, c3, c4, c5, c6, c7, c8⟩ := hw1; go_simp⟩) ?_
    simp only [Act.put, List.setIfInBounds_toArray, List.set_cons_zero, List.set_cons_succ]
    refine wpAnyK_takeTo 9 (some 17) (.pointer (some ⟨g, 0, none⟩)) [10, 11, 12, 13, 14, 15, 16, 17] rfl rfl (by kernel_rfl) (by kernel_rfl) (by kernel_rfl) (by kernel_rfl) (fun _ _ _ h => h) hS (Or.inl ⟨rfl, fun w1 hw1 => by obtain ⟨c0, c1, c2, c3, c4, c5, c6, c7, c8⟩ := hw1; go_simp⟩) ?_
    simp only [Act.put, List.setIfInBounds_toArray, List.set_cons_zero, List.set_cons_succ]
    refine wpAnyK_takeTo 10 (some 18) (.pointer (some ⟨g, 0, none⟩)) [11, 12, 13, 14, 15, 16, 17] rfl rfl (by kernel_rfl) (by kernel_rfl) (by kernel_rfl) (by kernel_rfl) (fun _ _ _ h => h) hS (Or.inl ⟨rfl, fun w1 hw1 => by obtain ⟨c0, c1, c2, c3, c4, c5, c6, c7, c8⟩ := hw1; go_simp⟩) ?_
    simp only [Act.put, List.setIfInBounds_toArray, List.set_cons_zero, List.set_cons_succ]
    refine wpAnyK_takeTo 11 (some 19) (.pointer (some ⟨g, 0, none⟩)) [12, 13, 14, 15, 16, 17] rfl rfl (by kernel_rfl) (by kernel_rfl) (by kernel_rfl) (by kernel_rfl) (fun _ _ _ h => h) hS (Or.inl ⟨rfl, fun w1 hw1 => by obtain ⟨c0, c1, c2, c3, c4, c5, c6, c7, c8⟩ := hw1; go_simp⟩) ?_
    simp only [Act.put, List.setIfInBounds_toArray, List.set_cons_zero, List.set_cons_succ]
    refine wpAnyK_takeTo 12 (some 20) (.agg #[.int .i64 p.x, .int .i64 p.y, .int .i64 p.id]) [13, 14, 15, 16, 17] rfl rfl (by kernel_rfl) (by kernel_rfl) (by kernel_rfl) (by kernel_rfl) (fun _ _ _ h => h) hS (Or.inl ⟨rfl, fun w1 hw1 => by obtain ⟨c0, c1, c2, c3, c4, c5, c6, c7, c8⟩ := hw1; go_simp⟩) ?_
    simp only [Act.put, List.setIfInBounds_toArray, List.set_cons_zero, List.set_cons_succ]
    refine wpAnyK_one (i := 13) (by kernel_rfl) rfl rfl ?_
    have F1 := Fr.alloc U (.cells #[.int .i64 p.x, .int .i64 p.y, .int .i64 p.id] 35) (fun _ => False)
    have hS1 := hS.fr F1 (fun h => h)
    have hp1 := box_pt U p
    obtain ⟨v1, U2, hr2, o2, f2, s2⟩ := app_pt (OwnPt.fr HOD.out F1 (fun _ _ h => h)) U.heap.size hp1 40 (by have := HNN.out; omega)
    go_simp
    refine wpAnyK_one (i := 14) (by kernel_rfl) rfl rfl ?_
    refine wp_append_to (.tmp 16) (.tmp 21) 40 rfl _ rfl _ rfl _ _ rfl rfl _ _ hr2 ?_
    have hU0 := HF0.out.size
    have hU1 := F1.size
    have hs2 : Fresh w (.slice a L.length c) v1 := by
      rcases s2 with h | ⟨k, h, h2⟩
      · exact .inl h
      · exact .inr ⟨k, h, by omega⟩
    have F2 := ((HF0.out.trans F1).trans f2).mono (Y := fun k => (Value.slice a L.length c).ownBlock = some k) (fun k _ h => by rcases h with (h | h) | h; exact h.elim; exact h.elim; exact h)
    have FU2 := (F1.trans f2).mono (Y := fun k => (Value.slice a L.length c).ownBlock = some k) (fun k _ h => by rcases h with h | h; exact h.elim; exact h)
    have hv1 : ∀ k, v1.ownBlock = some k → ¬ (k = g ∨ Sl k ∨ Sr k) := fun k hk h => by
      have hlt := HLT.out k h
      exact HD.out k (hs2.back (Nat.le_refl _) hlt hk) h
    have hS2 : NodeC U2 g p f (.pointer la) (.pointer ra) n := hS1.fr f2 (fun h => HD.out g h (.inl rfl))
    have HL2 := hide (HLD.out.fr FU2 (fun k hk h => HD.out k h (.inr (.inl hk))))
    have HR2 := hide (HRD.out.fr FU2 (fun k hk h => HD.out k h (.inr (.inr hk))))
    refine ⟨fun _ => hS2, ?_⟩
    simp only [Act.put, List.setIfInBounds_toArray, List.set_cons_zero, List.set_cons_succ]
    clear hr2 f2 s2 F1 hp1 hS hS1 HOD HLD HRD FU2
    refine wpAnyK_one (i := 15) (by kernel_rfl) rfl rfl ?_
    refine wp_call_to (some 23) rfl 61 #[.pointer la, v1] (by go_simp) (HIL.out _ _ _ _ HL2.out v1 (L ++ [p]) o2 (fun k hk h => hv1 k hk (.inr (.inl h))) HLEN1.out) ?_
    rintro e U3 ⟨v2, rfl, o3, f3, s3⟩
    refine ⟨_, rfl, ?_⟩
    have hS3 : NodeC U3 g p f (.pointer la) (.pointer ra) n := hS2.fr f3 (fun h => hv1 g h (.inl rfl))
    have HR3 := hide (HR2.out.fr f3 (fun k hk h => hv1 k h (.inr (.inr hk))))
    have hs3 : Fresh w (.slice a L.length c) v2 := hs2.ptrans s3 F2.size
    have F3 := (F2.trans f3).mono (Y := fun k => (Value.slice a L.length c).ownBlock = some k) (fun k hk h => by rcases h with h | h; exact h; exact hs2.back (Nat.le_refl _) hk h)
    refine ⟨fun _ => hS3, ?_⟩
    simp only [Act.put, List.setIfInBounds_toArray, List.set_cons_zero, List.set_cons_succ]
    refine wpAnyK_one (i := 16) (by kernel_rfl) rfl rfl ?_
    refine wp_call_to (some 24) rfl 61 #[.pointer ra, v2] (by go_simp) (HIR.out _ _ _ _ HR3.out v2 (L ++ [p] ++ l.pts) o3 (fun k hk h => by
      have hlt := HLT.out k (.inr (.inr h))
      exact HD.out k (hs3.back (Nat.le_refl _) hlt hk) (.inr (.inr h))) HLEN2.out) ?_
    rintro e U4 ⟨v3, rfl, o4, f4, s4⟩
    refine ⟨_, rfl, fun h => by simp at h, ?_⟩
    simp only [Act.put, List.setIfInBounds_toArray, List.set_cons_zero, List.set_cons_succ]
    have hs4 : Fresh w (.slice a L.length c) v3 := hs3.ptrans s4 F3.size
    have F4 := (F3.trans f4).mono (Y := fun k => (Value.slice a L.length c).ownBlock = some k) (fun k hk h => by rcases h with h | h; exact h; exact hs3.back (Nat.le_refl _) hk h)
    have HRES := hide (And.intro (show OwnPt U4 v3 (L ++ (PT.node p f l r).pts) by simpa [PT.pts] using o4) (And.intro F4 hs4))
    clear o2 o3 o4 f3 f4 s3 s4 hs2 hs3 hs4 F2 F3 F4 hS2 hS3 hv1
    refine wpAnyK_one (i := 17) (by kernel_rfl) rfl rfl ?_
    go_simp
    refine wpAnyK_done (by kernel_rfl) ?_ _
    go_wp2
    go_ret
    exact ⟨_, rfl, HRES.out.1, HRES.out.2.1, HRES.out.2.2⟩
end Go.Proofs.YtigkinakhijfoaaGreat.Ps

/- find. -/
namespace Go.Proofs.YtigkinakhijfoaaGreat.Ps
open Go.RowKit Go.Sort
set_option maxRecDepth 100000
set_option linter.unusedVariables false
set_option linter.unusedSimpArgs false

/-- A list that grows beside a node and its two trees. -/
structure GS (w : World) (lv : Value) (g : Nat) (p f : Pt) (la ra : Option Addr) (n base : Nat) (l r : PT) (Sl Sr : Nat → Prop) (W : World) (v : Value) (L : List Pt) : Prop where
  o : OwnPt W v L
  fr : Fr w W (fun k => lv.ownBlock = some k)
  s : Fresh w lv v
  c : NodeC W g p f (.pointer la) (.pointer ra) n
  tl : TreeAt W base l (.pointer la) Sl
  tr : TreeAt W base r (.pointer ra) Sr
  lt : ∀ k, k = g ∨ Sl k ∨ Sr k → k < w.heap.size
  d : ∀ k, lv.ownBlock = some k → ¬ (k = g ∨ Sl k ∨ Sr k)
section
variable {w : World} {lv : Value} {g : Nat} {p f : Pt} {la ra : Option Addr} {n base : Nat} {l r : PT} {Sl Sr : Nat → Prop} {W W' : World} {v v' : Value} {L L' : List Pt}
theorem GS.av (h : GS w lv g p f la ra n base l r Sl Sr W v L) : ∀ k, v.ownBlock = some k → ¬ (k = g ∨ Sl k ∨ Sr k) := fun k hk hs => h.d k (h.s.back (Nat.le_refl _) (h.lt k hs) hk) hs
theorem GS.go (h : GS w lv g p f la ra n base l r Sl Sr W v L) (ho : OwnPt W' v' L') (hf : Fr W W' (fun k => v.ownBlock = some k)) (hs : Fresh W v v') : GS w lv g p f la ra n base l r Sl Sr W' v' L' :=
  ⟨ho, (h.fr.trans hf).mono (fun k hk hh => by rcases hh with hh | hh; exact hh; exact h.s.back (Nat.le_refl _) hk hh), h.s.ptrans hs h.fr.size, h.c.fr hf (fun hh => h.av g hh (.inl rfl)), h.tl.fr hf (fun k hk hh => h.av k hh (.inr (.inl hk))), h.tr.fr hf (fun k hk hh => h.av k hh (.inr (.inr hk))), h.lt, h.d⟩
theorem GS.push (h : GS w lv g p f la ra n base l r Sl Sr W v L) (q : Pt) (ty : TypeId) (hn : L.length + 1 ≤ 2199023255552) : ∃ v' W', (Builtin.append_ #[40, 40] ty #[v, .slice (some ⟨W.heap.size, 0, none⟩) 1 1]).run Tryz.prog (W.alloc (.cells #[.int .i64 q.x, .int .i64 q.y, .int .i64 q.id] 35)) = .ok v' W' ∧ GS w lv g p f la ra n base l r Sl Sr W' v' (L ++ [q]) := by
  have F1 := Fr.alloc W (.cells #[.int .i64 q.x, .int .i64 q.y, .int .i64 q.id] 35) (fun _ => False)
  obtain ⟨v', W', hr, o2, f2, s2⟩ := app_pt (OwnPt.fr h.o F1 (fun _ _ h => h)) W.heap.size (box_pt W q) ty hn
  refine ⟨v', W', hr, h.go o2 ((F1.trans f2).mono (fun k _ hh => by rcases hh with hh | hh; exact hh.elim; exact hh)) ?_⟩
  rcases s2 with hh | ⟨k, hh, h2⟩
  · exact .inl hh
  · exact .inr ⟨k, hh, Nat.le_trans F1.size h2⟩
end
set_option maxHeartbeats 16000000 in
theorem find_any (lo hi le : Int) : ∀ (t : PT) (w : World) (base : Nat) (v : Value) (S : Nat → Prop) (h : TreeAt w base t v S) (hok : t.Ok) (lv : Value) (L : List Pt) (hL : OwnPt w lv L) (hd : ∀ k, lv.ownBlock = some k → ¬ S k) (hn : L.length + t.size ≤ 2199023255552),
    Calls Tryz.prog 25 #[v, lv, .int .i64 lo, .int .i64 hi, .int .i64 le] w fun e w' => ∃ lv', e = .returned lv' ∧ OwnPt w' lv' (L ++ t.pts.filter (withinP lo hi le)) ∧ Fr w w' (fun k => lv.ownBlock = some k) ∧ Fresh w lv lv' := by
  intro t
  induction t with
  | nil =>
    intro w base v S h hok lv L hL hd hn
    obtain ⟨rfl, _⟩ := h
    have HL := hide hL
    clear hL
    go_enter Tryz.func25, Tryz.ntmps25
    go_wp2
    go_ret
    exact ⟨_, rfl, by simpa [PT.pts] using HL.out, Fr.refl _ _, .inl rfl⟩
  | node p f l r ihl ihr =>
    intro w base v S h hok lv L hL hd hn
    obtain ⟨g, cl, cr, Sl, Sr, rfl, hg, hN, hl, hr, d1, d2, d3, hS0⟩ := h
    obtain ⟨la, rfl⟩ := hl.ptr
    obtain ⟨ra, rfl⟩ := hr.ptr
    have hsz : (PT.node p f l r).size = l.size + r.size + 1 := rfl
    rw [hsz] at hn
    have HNN := hide hn
    have G0 : GS w lv g p f la ra (l.size + r.size + 1) base l r Sl Sr w lv L := ⟨hL, Fr.refl _ _, .inl rfl, hN.c, hl, hr, fun k hk => by
      rcases hk with rfl | hk | hk
      · exact (Array.getElem?_eq_some_iff.1 hN).1
      · exact (hl.lt k hk).2
      · exact (hr.lt k hk).2, fun k hk h => hd k hk ((hS0 k).2 h)⟩
    generalize l.size + r.size + 1 = n at G0
    have HG0 := hide G0
    have HIL := hide ihl
    have HIR := hide ihr
    have HOK := hide hok
    have hpl : l.pts.length = l.size := l.length_pts
    have HPL : Hid ((l.pts.filter (withinP lo hi le)).length ≤ l.size) := hide (by rw [← hpl]; exact List.length_filter_le _ _)
    have e0 : (PT.node p f l r).pts.filter (withinP lo hi le) = (if withinP lo hi le p then [p] else []) ++ (l.pts.filter (withinP lo hi le) ++ r.pts.filter (withinP lo hi le)) := by
      simp only [PT.pts, List.filter_cons, List.filter_append]
      split <;> simp
    have HE := hide e0
    obtain ⟨c0, c1, c2, c3, c4, c5, c6, c7, c8⟩ := G0.c
    clear hok ihl ihr hN hl hr hL hd hS0 d1 d2 d3 hsz hn hpl e0 G0
    by_cases hy : p.y < le
    · have hyb : decide (p.y < le) = true := by simp [hy]
      go_enter Tryz.func25, Tryz.ntmps25
      go_wp2
      go_ret
      exact ⟨_, rfl, by rw [find_low HOK.out lo hi le (by omega), List.append_nil]; exact HG0.out.o, HG0.out.fr, HG0.out.s⟩
    · have hyb : decide (p.y < le) = false := by simp; omega
      by_cases hx1 : lo ≤ p.x
      · have hxb : decide (lo ≤ p.x) = true := by simp [hx1]
        by_cases hx2 : p.x ≤ hi
        · have hxc : decide (p.x ≤ hi) = true := by simp [hx2]
          have hw : withinP lo hi le p = true := by unfold withinP; simp [hx1, hx2]; omega
          rw [hw, if_pos rfl] at HE
          obtain ⟨v1, W1, hr1, g1⟩ := HG0.out.push p 40 (by have := HNN.out; omega)
          have HG1 := hide g1
          have HLE : Hid ((L ++ [p]).length + l.size + r.size ≤ 2199023255552) := hide (by have := HNN.out; rw [List.length_append]; simp only [List.length_singleton]; omega)
          clear g1
          go_enter Tryz.func25, Tryz.ntmps25
          obtain ⟨x0, x1, x2, x3, x4, x5, x6, x7, x8⟩ := HG1.out.c
          by_cases hl : lo ≤ f.x
          · have hlb : decide (lo ≤ f.x) = true := by simp [hl]
            go_wp2_with (refine wpList_plain rfl fun _ hK => wp_append_to (.tmp 39) (.tmp 44) 40 rfl _ rfl _ rfl lv (.slice (some ⟨w.heap.size, 0, none⟩) 1 1) rfl rfl _ _ hr1 (hK _ _ ?_); clear hK)
            refine (HIL.out _ _ _ _ HG1.out.tl HOK.out.2.2.2.1 _ (L ++ [p]) HG1.out.o (fun k hk h => HG1.out.av k hk (.inr (.inl h))) (by have := HLE.out; omega)).mono ?_
            rintro e W2 ⟨v2, rfl, o2, f2, s2⟩
            have HG2 := hide (HG1.out.go o2 f2 s2)
            obtain ⟨b0, b1, b2, b3, b4, b5, b6, b7, b8⟩ := HG2.out.c
            clear o2 f2 s2
            by_cases hr : f.x ≤ hi
            · have hrb : decide (f.x ≤ hi) = true := by simp [hr]
              go_wp2_with fail
              refine (HIR.out _ _ _ _ HG2.out.tr HOK.out.2.2.2.2 _ ((L ++ [p]) ++ l.pts.filter (withinP lo hi le)) HG2.out.o (fun k hk h => HG2.out.av k hk (.inr (.inr h))) (by have h1 := HLE.out; have h2 := HPL.out; rw [List.length_append]; omega)).mono ?_
              rintro e W9 ⟨v9, rfl, o9, f9, s9⟩
              have HG9 := hide (HG2.out.go o9 f9 s9)
              clear o9 f9 s9
              go_wp2
              go_ret
              exact ⟨_, rfl, by have h9 := HG9.out.o; rw [HE.out]; simp only [List.append_assoc, List.nil_append, List.append_nil] at h9 ⊢; exact h9, HG9.out.fr, HG9.out.s⟩
            · have hrb : decide (f.x ≤ hi) = false := by simp; omega
              go_wp2
              go_ret
              exact ⟨_, rfl, by have h9 := HG2.out.o; rw [HE.out, find_right HOK.out lo hi le (by omega)]; simp only [List.append_assoc, List.nil_append, List.append_nil] at h9 ⊢; exact h9, HG2.out.fr, HG2.out.s⟩
          · have hlb : decide (lo ≤ f.x) = false := by simp; omega
            by_cases hr : f.x ≤ hi
            · have hrb : decide (f.x ≤ hi) = true := by simp [hr]
              go_wp2_with (refine wpList_plain rfl fun _ hK => wp_append_to (.tmp 39) (.tmp 44) 40 rfl _ rfl _ rfl lv (.slice (some ⟨w.heap.size, 0, none⟩) 1 1) rfl rfl _ _ hr1 (hK _ _ ?_); clear hK)
              refine (HIR.out _ _ _ _ HG1.out.tr HOK.out.2.2.2.2 _ (L ++ [p]) HG1.out.o (fun k hk h => HG1.out.av k hk (.inr (.inr h))) (by have h1 := HLE.out; omega)).mono ?_
              rintro e W9 ⟨v9, rfl, o9, f9, s9⟩
              have HG9 := hide (HG1.out.go o9 f9 s9)
              clear o9 f9 s9
              go_wp2
              go_ret
              exact ⟨_, rfl, by have h9 := HG9.out.o; rw [HE.out, find_left HOK.out lo hi le (by omega)]; simp only [List.append_assoc, List.nil_append, List.append_nil] at h9 ⊢; exact h9, HG9.out.fr, HG9.out.s⟩
            · have hrb : decide (f.x ≤ hi) = false := by simp; omega
              exact absurd hl (by omega)
        · have hxc : decide (p.x ≤ hi) = false := by simp; omega
          have hw : withinP lo hi le p = false := by unfold withinP; simp [hx2]
          rw [hw, if_neg (by decide)] at HE
          have HLE : Hid (L.length + l.size + r.size ≤ 2199023255552) := hide (by have := HNN.out; omega)
          go_enter Tryz.func25, Tryz.ntmps25
          by_cases hl : lo ≤ f.x
          · have hlb : decide (lo ≤ f.x) = true := by simp [hl]
            go_wp2_with fail
            refine (HIL.out _ _ _ _ HG0.out.tl HOK.out.2.2.2.1 _ L HG0.out.o (fun k hk h => HG0.out.av k hk (.inr (.inl h))) (by have := HLE.out; omega)).mono ?_
            rintro e W2 ⟨v2, rfl, o2, f2, s2⟩
            have HG2 := hide (HG0.out.go o2 f2 s2)
            obtain ⟨b0, b1, b2, b3, b4, b5, b6, b7, b8⟩ := HG2.out.c
            clear o2 f2 s2
            by_cases hr : f.x ≤ hi
            · have hrb : decide (f.x ≤ hi) = true := by simp [hr]
              go_wp2_with fail
              refine (HIR.out _ _ _ _ HG2.out.tr HOK.out.2.2.2.2 _ (L ++ l.pts.filter (withinP lo hi le)) HG2.out.o (fun k hk h => HG2.out.av k hk (.inr (.inr h))) (by have h1 := HLE.out; have h2 := HPL.out; rw [List.length_append]; omega)).mono ?_
              rintro e W9 ⟨v9, rfl, o9, f9, s9⟩
              have HG9 := hide (HG2.out.go o9 f9 s9)
              clear o9 f9 s9
              go_wp2
              go_ret
              exact ⟨_, rfl, by have h9 := HG9.out.o; rw [HE.out]; simp only [List.append_assoc, List.nil_append, List.append_nil] at h9 ⊢; exact h9, HG9.out.fr, HG9.out.s⟩
            · have hrb : decide (f.x ≤ hi) = false := by simp; omega
              go_wp2
              go_ret
              exact ⟨_, rfl, by have h9 := HG2.out.o; rw [HE.out, find_right HOK.out lo hi le (by omega)]; simp only [List.append_assoc, List.nil_append, List.append_nil] at h9 ⊢; exact h9, HG2.out.fr, HG2.out.s⟩
          · have hlb : decide (lo ≤ f.x) = false := by simp; omega
            by_cases hr : f.x ≤ hi
            · have hrb : decide (f.x ≤ hi) = true := by simp [hr]
              go_wp2_with fail
              refine (HIR.out _ _ _ _ HG0.out.tr HOK.out.2.2.2.2 _ L HG0.out.o (fun k hk h => HG0.out.av k hk (.inr (.inr h))) (by have h1 := HLE.out; omega)).mono ?_
              rintro e W9 ⟨v9, rfl, o9, f9, s9⟩
              have HG9 := hide (HG0.out.go o9 f9 s9)
              clear o9 f9 s9
              go_wp2
              go_ret
              exact ⟨_, rfl, by have h9 := HG9.out.o; rw [HE.out, find_left HOK.out lo hi le (by omega)]; simp only [List.append_assoc, List.nil_append, List.append_nil] at h9 ⊢; exact h9, HG9.out.fr, HG9.out.s⟩
            · have hrb : decide (f.x ≤ hi) = false := by simp; omega
              go_wp2
              go_ret
              exact ⟨_, rfl, by have h9 := HG0.out.o; rw [HE.out, find_left HOK.out lo hi le (by omega), find_right HOK.out lo hi le (by omega)]; simp only [List.append_assoc, List.nil_append, List.append_nil] at h9 ⊢; exact h9, HG0.out.fr, HG0.out.s⟩
      · have hxb : decide (lo ≤ p.x) = false := by simp; omega
        have hw : withinP lo hi le p = false := by unfold withinP; simp [hx1]
        rw [hw, if_neg (by decide)] at HE
        have HLE : Hid (L.length + l.size + r.size ≤ 2199023255552) := hide (by have := HNN.out; omega)
        go_enter Tryz.func25, Tryz.ntmps25
        by_cases hl : lo ≤ f.x
        · have hlb : decide (lo ≤ f.x) = true := by simp [hl]
          go_wp2_with fail
          refine (HIL.out _ _ _ _ HG0.out.tl HOK.out.2.2.2.1 _ L HG0.out.o (fun k hk h => HG0.out.av k hk (.inr (.inl h))) (by have := HLE.out; omega)).mono ?_
          rintro e W2 ⟨v2, rfl, o2, f2, s2⟩
          have HG2 := hide (HG0.out.go o2 f2 s2)
          obtain ⟨b0, b1, b2, b3, b4, b5, b6, b7, b8⟩ := HG2.out.c
          clear o2 f2 s2
          by_cases hr : f.x ≤ hi
          · have hrb : decide (f.x ≤ hi) = true := by simp [hr]
            go_wp2_with fail
            refine (HIR.out _ _ _ _ HG2.out.tr HOK.out.2.2.2.2 _ (L ++ l.pts.filter (withinP lo hi le)) HG2.out.o (fun k hk h => HG2.out.av k hk (.inr (.inr h))) (by have h1 := HLE.out; have h2 := HPL.out; rw [List.length_append]; omega)).mono ?_
            rintro e W9 ⟨v9, rfl, o9, f9, s9⟩
            have HG9 := hide (HG2.out.go o9 f9 s9)
            clear o9 f9 s9
            go_wp2
            go_ret
            exact ⟨_, rfl, by have h9 := HG9.out.o; rw [HE.out]; simp only [List.append_assoc, List.nil_append, List.append_nil] at h9 ⊢; exact h9, HG9.out.fr, HG9.out.s⟩
          · have hrb : decide (f.x ≤ hi) = false := by simp; omega
            go_wp2
            go_ret
            exact ⟨_, rfl, by have h9 := HG2.out.o; rw [HE.out, find_right HOK.out lo hi le (by omega)]; simp only [List.append_assoc, List.nil_append, List.append_nil] at h9 ⊢; exact h9, HG2.out.fr, HG2.out.s⟩
        · have hlb : decide (lo ≤ f.x) = false := by simp; omega
          by_cases hr : f.x ≤ hi
          · have hrb : decide (f.x ≤ hi) = true := by simp [hr]
            go_wp2_with fail
            refine (HIR.out _ _ _ _ HG0.out.tr HOK.out.2.2.2.2 _ L HG0.out.o (fun k hk h => HG0.out.av k hk (.inr (.inr h))) (by have h1 := HLE.out; omega)).mono ?_
            rintro e W9 ⟨v9, rfl, o9, f9, s9⟩
            have HG9 := hide (HG0.out.go o9 f9 s9)
            clear o9 f9 s9
            go_wp2
            go_ret
            exact ⟨_, rfl, by have h9 := HG9.out.o; rw [HE.out, find_left HOK.out lo hi le (by omega)]; simp only [List.append_assoc, List.nil_append, List.append_nil] at h9 ⊢; exact h9, HG9.out.fr, HG9.out.s⟩
          · have hrb : decide (f.x ≤ hi) = false := by simp; omega
            go_wp2
            go_ret
            exact ⟨_, rfl, by have h9 := HG0.out.o; rw [HE.out, find_left HOK.out lo hi le (by omega), find_right HOK.out lo hi le (by omega)]; simp only [List.append_assoc, List.nil_append, List.append_nil] at h9 ⊢; exact h9, HG0.out.fr, HG0.out.s⟩
end Go.Proofs.YtigkinakhijfoaaGreat.Ps
