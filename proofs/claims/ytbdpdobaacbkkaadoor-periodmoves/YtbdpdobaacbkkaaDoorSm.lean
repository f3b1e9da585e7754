/- Periods moved: the walk of PeriodMoves. -/
import Derived.Test.YtbdpdobaacbkkaaDoorSy
namespace Go.Proofs.YtbdpdobaacbkkaaDoor
open Go.RowKit
set_option linter.unusedVariables false

section
variable {P : Program} {ops : Array Oper} {Q : Exit → Act → World → Prop} {md : Region.Mode} {S : World → Prop} {hold : Nat → Bool}
/-- Two operations that are ready. -/
theorem wpAnyK_two {i j : Nat} {oi oj : Oper} {fuel : Nat} {listed : Array Bool} {a : Act} {w : World} (hr : Region.ready md ops listed = [i, j]) (hi : ops[i]? = some oi) (hj : ops[j]? = some oj) (hgi : oi.guard = none) (hgj : oj.guard = none)
    (h1 : Oper.wp P oi a w (fun a' w' => (hold i = true → S w') ∧ wpAnyK P md ops Q hold S fuel (listed.setIfInBounds i true) a' w') Q)
    (h2 : Oper.wp P oj a w (fun a' w' => (hold j = true → S w') ∧ wpAnyK P md ops Q hold S fuel (listed.setIfInBounds j true) a' w') Q) : wpAnyK P md ops Q hold S (fuel + 1) listed a w := by
  refine ⟨fun h0 => (by rw [hr] at h0; cases h0), fun k hk => ?_⟩
  rw [hr] at hk
  rcases List.mem_cons.1 hk with rfl | hk
  · unfold wpOp
    have gi : Region.wanted oi (yielded ops a.tmps) = true := by simp [Region.wanted, hgi]
    simp only [hi, gi, if_true]
    exact .inl h1
  · obtain rfl : k = j := by simpa using hk
    unfold wpOp
    have gj : Region.wanted oj (yielded ops a.tmps) = true := by simp [Region.wanted, hgj]
    simp only [hj, gj, if_true]
    exact .inl h2
/-- A region that draws its order, with what it comes to said outright. -/
theorem wp_region_T (hold : Nat → Bool) (S : World → Prop) (T : Act → Act → World → Prop) {id : Nat} {a : Act} {w : World} (hm : P.follows .mixedOrders = true)
    (h : wpAnyK P .any ops (fun e a' w' => (e = .normal → T a a' w') ∧ (e ≠ .normal → Q e a' w')) hold S ops.size (Array.replicate ops.size false) a w.drew)
    (hk : ∀ a' w', T a a' w' → Q .normal a' w') : (Code.region id ops true).wp P Q a w := by
  exact Code.wp_mono (fun e a' w' h1 => by
    by_cases he : e = .normal
    · subst he; exact hk _ _ (h1.1 rfl)
    · exact h1.2 he) (wp_region_K (Q := fun e a' w' => (e = .normal → T a a' w') ∧ (e ≠ .normal → Q e a' w')) hold S hm h)
end
theorem wp_valD {o : Oper} {a : Act} {w : World} {K : Act → World → Prop} {Q : Exit → Act → World → Prop} (d : Option Tmp) (hd : o.dst = d) (v : Value) (w' : World)
    (hr : (execOp a.eval o).run Tryd.prog w = .ok (.value v) w') (hK : K (a.put d v) w') : o.wp Tryd.prog a w K Q := by
  subst hd
  unfold Oper.wp
  rw [hr]
  exact hK

def sh (n : Int) (p : Per) : Per := ⟨p.lo + n, p.hi + n⟩
theorem canon_sh (n : Int) : ∀ L : List Per, Canon L → Canon (L.map (sh n))
  | [], _ => trivial
  | [p], h => by simp only [List.map, Canon, sh] at *; omega
  | p :: q :: r, h => by
    have ih := canon_sh n (q :: r) h.2.2
    refine ⟨?_, ?_, ih⟩
    · have := h.1; simp only [sh]; omega
    · have := h.2.1; simp only [sh]; omega
theorem mem_sh (n t : Int) (L : List Per) : Mem (L.map (sh n)) t ↔ Mem L (t - n) := by
  unfold Mem
  constructor
  · rintro ⟨p, hp, h⟩
    obtain ⟨q, hq, rfl⟩ := List.mem_map.1 hp
    exact ⟨q, hq, by simp only [Has, sh] at *; omega⟩
  · rintro ⟨p, hp, h⟩
    exact ⟨sh n p, List.mem_map_of_mem hp, by simp only [Has, sh] at *; omega⟩
theorem right_sh {n : Int} {p : Per} (h : Right p) (h0 : 0 ≤ n) (h1 : p.hi + n ≤ 1099511627776) : Right (sh n p) := by
  unfold Right sh at *; simp only []; omega
theorem minus_sh {a b : Per} {n : Int} {M N : List Per} (hm : IsMinus a [b] M) (hn : IsMinus (sh n a) [sh n b] N) (ra : Right a) (rb : Right b) (h0 : 0 ≤ n) (ha : a.hi + n ≤ 1099511627776) (hb : b.hi + n ≤ 1099511627776) : N = M.map (sh n) := by
  refine minus_unique hn _ (canon_sh n M hm.canon) (fun t => ?_)
  rw [mem_sh, hm.mem]
  have ra' := right_sh ra h0 ha
  have rb' := right_sh rb h0 hb
  simp only [ra, ra', true_and, In, List.mem_singleton, exists_eq_left, rb, rb']
  simp only [Has, sh]
  omega
theorem rel_sh {a b : Per} {n : Int} (ra : Right a) (rb : Right b) (h0 : 0 ≤ n) (ha : a.hi + n ≤ 1099511627776) (hb : b.hi + n ≤ 1099511627776) : relV (sh n a) (sh n b) = relV a b ∧ relE (sh n a) (sh n b) = 0 := by
  have o1 : relOk a b = true := by simp [relOk, (rightB_iff a).2 ra, (rightB_iff b).2 rb]
  have o2 : relOk (sh n a) (sh n b) = true := by simp [relOk, (rightB_iff _).2 (right_sh ra h0 ha), (rightB_iff _).2 (right_sh rb h0 hb)]
  refine ⟨?_, by simp [relE, o2]⟩
  rw [relV, relV, if_pos o1, if_pos o2]
  simp only [relN, relIn, sh]
  (repeat' split) <;> omega
/-- Four boxes: two at g, one at g7, one at g8. -/
structure Bx4 (V : World) (g g7 g8 : Nat) (a b c d : Per) : Prop where
  ab : Bx2 V g a b
  tc : Two V g7 (.int .i64 c.lo) (.int .i64 c.hi)
  td : Two V g8 (.int .i64 d.lo) (.int .i64 d.hi)
theorem Bx4.fr {V V' : World} {g g7 g8 : Nat} {a b c d : Per} (h : Bx4 V g g7 g8 a b c d) (hf : Fr V V' (fun _ => False)) : Bx4 V' g g7 g8 a b c d := ⟨h.ab.fr hf, h.tc.fr hf (fun h => h), h.td.fr hf (fun h => h)⟩
theorem znew (V : World) : Two (V.alloc (.cells #[.int .i64 0, .int .i64 0] 23)) V.heap.size (.int .i64 0) (.int .i64 0) := two_of (heap_alloc_new V _)
/-- Two new boxes, filled, in either order. -/
def boxed2 (V : World) (x y : Nat) (c d : Per) : World := ((((((V.alloc (.cells #[.int .i64 0, .int .i64 0] 23)).alloc (.cells #[.int .i64 0, .int .i64 0] 23)).setCell ⟨x, 0, none⟩ (.int .i64 c.lo)).setCell ⟨x, 1, none⟩ (.int .i64 c.hi)).setCell ⟨y, 0, none⟩ (.int .i64 d.lo)).setCell ⟨y, 1, none⟩ (.int .i64 d.hi))
theorem zeros2 (V : World) : Two ((V.alloc (.cells #[.int .i64 0, .int .i64 0] 23)).alloc (.cells #[.int .i64 0, .int .i64 0] 23)) V.heap.size (.int .i64 0) (.int .i64 0) ∧ Two ((V.alloc (.cells #[.int .i64 0, .int .i64 0] 23)).alloc (.cells #[.int .i64 0, .int .i64 0] 23)) (V.heap.size + 1) (.int .i64 0) (.int .i64 0) := by
  have h2 := znew (V.alloc (.cells #[.int .i64 0, .int .i64 0] 23))
  simp only [World.size_alloc] at h2
  exact ⟨(znew V).fr (Fr.alloc _ _ (fun _ => False)) (fun h => h), h2⟩
theorem boxed2_fr (V : World) (x y : Nat) (c d : Per) (hx : V.heap.size ≤ x) (hy : V.heap.size ≤ y) : Fr V (boxed2 V x y c d) (fun _ => False) :=
  (((((up_two (w := V)).trans (Fr.setCell _ ⟨x, 0, none⟩ _)).trans (Fr.setCell _ ⟨x, 1, none⟩ _)).trans (Fr.setCell _ ⟨y, 0, none⟩ _)).trans (Fr.setCell _ ⟨y, 1, none⟩ _)).mono (fun q hq h => by rcases h with (((h | h) | h) | h) | h; exact h; all_goals (simp only [] at h; omega))
theorem boxed2_two (V : World) (x y : Nat) (c d : Per) (hxy : x ≠ y) (hx : x = V.heap.size ∨ x = V.heap.size + 1) (hy : y = V.heap.size ∨ y = V.heap.size + 1) : Two (boxed2 V x y c d) x (.int .i64 c.lo) (.int .i64 c.hi) ∧ Two (boxed2 V x y c d) y (.int .i64 d.lo) (.int .i64 d.hi) := by
  have z := zeros2 V
  have zx : Two ((V.alloc (.cells #[.int .i64 0, .int .i64 0] 23)).alloc (.cells #[.int .i64 0, .int .i64 0] 23)) x (.int .i64 0) (.int .i64 0) := by rcases hx with rfl | rfl; exact z.1; exact z.2
  have zy : Two ((V.alloc (.cells #[.int .i64 0, .int .i64 0] 23)).alloc (.cells #[.int .i64 0, .int .i64 0] 23)) y (.int .i64 0) (.int .i64 0) := by rcases hy with rfl | rfl; exact z.1; exact z.2
  refine ⟨((((zx.set0 (.int .i64 c.lo)).set1 (.int .i64 c.hi)).fr (Fr.setCell _ ⟨y, 0, none⟩ _) hxy).fr (Fr.setCell _ ⟨y, 1, none⟩ _) hxy), ?_⟩
  exact ((((zy.fr (Fr.setCell _ ⟨x, 0, none⟩ _) (Ne.symm hxy)).fr (Fr.setCell _ ⟨x, 1, none⟩ _) (Ne.symm hxy)).set0 _).set1 _)
theorem boxed2_bx {V : World} {g : Nat} {a b : Per} (x y : Nat) (c d : Per) (hxy : x ≠ y) (hx : x = V.heap.size ∨ x = V.heap.size + 1) (hy : y = V.heap.size ∨ y = V.heap.size + 1) (h : Bx2 V g a b) : Bx4 (boxed2 V x y c d) g x y a b c d :=
  ⟨h.fr (boxed2_fr V x y c d (by omega) (by omega)), (boxed2_two V x y c d hxy hx hy).1, (boxed2_two V x y c d hxy hx hy).2⟩
end Go.Proofs.YtbdpdobaacbkkaaDoor
