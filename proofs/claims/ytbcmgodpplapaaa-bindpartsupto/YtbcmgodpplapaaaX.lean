/- Expressions built of others. -/
import Derived.Test.YtbcmgodpplapaaaJ
namespace Go.Proofs.Ytbcmgodpplapaaa
open Go.RowKit
set_option maxRecDepth 100000
set_option linter.unusedVariables false
set_option linter.unusedSimpArgs false

/-- A box of five cells. -/
structure Qui (w : World) (g : Nat) (x0 x1 x2 x3 x4 : Value) : Prop where
  c0 : w.cell? ⟨g, 0, none⟩ = some x0
  c1 : w.cell? ⟨g, 1, none⟩ = some x1
  c2 : w.cell? ⟨g, 2, none⟩ = some x2
  c3 : w.cell? ⟨g, 3, none⟩ = some x3
  c4 : w.cell? ⟨g, 4, none⟩ = some x4
  z : ∀ j, w.frozen? ⟨g, j, none⟩ = false
theorem qui_of {w : World} {g : Nat} {x0 x1 x2 x3 x4 : Value} {t : TypeId} (h : w.heap[g]? = some (.cells #[x0, x1, x2, x3, x4] t (0, 0))) : Qui w g x0 x1 x2 x3 x4 := by
  refine ⟨?_, ?_, ?_, ?_, ?_, ?_⟩
  all_goals first | (rw [cell_of_row _ _ _ _ _ _ h]; rfl) | (intro j; simp [World.frozen?, h])
theorem Qui.fr {w w' : World} {X : Nat → Prop} {g : Nat} {x0 x1 x2 x3 x4 : Value} (h : Qui w g x0 x1 x2 x3 x4) (hf : Fr w w' X) (hx : ¬ X g) : Qui w' g x0 x1 x2 x3 x4 := by
  have hb := hf.block g (World.block_lt_of_cell? w _ h.c0) hx
  have e : ∀ o, w'.cell? ⟨g, o, none⟩ = w.cell? ⟨g, o, none⟩ := fun o => World.cell?_of_block (w := w) hb
  exact ⟨by rw [e]; exact h.c0, by rw [e]; exact h.c1, by rw [e]; exact h.c2, by rw [e]; exact h.c3, by rw [e]; exact h.c4, fun j => by rw [World.frozen?_of_block (w := w) hb]; exact h.z j⟩
def fill5 (w : World) (g : Nat) (x0 x1 x2 x3 x4 : Value) : World := ((((w.setCell ⟨g, 0, none⟩ x0).setCell ⟨g, 1, none⟩ x1).setCell ⟨g, 2, none⟩ x2).setCell ⟨g, 3, none⟩ x3).setCell ⟨g, 4, none⟩ x4
theorem Qui.set {w : World} {g : Nat} {x0 x1 x2 x3 x4 : Value} (h : Qui w g x0 x1 x2 x3 x4) (j : Nat) (v : Value) : Qui (w.setCell ⟨g, j, none⟩ v) g (if 0 = j then v else x0) (if 1 = j then v else x1) (if 2 = j then v else x2) (if 3 = j then v else x3) (if 4 = j then v else x4) :=
  ⟨cell_set h.c0, cell_set h.c1, cell_set h.c2, cell_set h.c3, cell_set h.c4, fun i => by rw [World.frozen?_setCell]; exact h.z i⟩
theorem Qui.fill {w : World} {g : Nat} {y0 y1 y2 y3 y4 : Value} (h : Qui w g y0 y1 y2 y3 y4) (x0 x1 x2 x3 x4 : Value) : Qui (fill5 w g x0 x1 x2 x3 x4) g x0 x1 x2 x3 x4 :=
  ((((h.set 0 x0).set 1 x1).set 2 x2).set 3 x3).set 4 x4
theorem fill5_fr (w : World) (g : Nat) (x0 x1 x2 x3 x4 : Value) : Fr w (fill5 w g x0 x1 x2 x3 x4) (fun k => k = g) :=
  (((((Fr.setCell w ⟨g, 0, none⟩ x0).trans (Fr.setCell _ ⟨g, 1, none⟩ x1)).trans (Fr.setCell _ ⟨g, 2, none⟩ x2)).trans (Fr.setCell _ ⟨g, 3, none⟩ x3)).trans (Fr.setCell _ ⟨g, 4, none⟩ x4)).mono (fun k _ h => by simpa using h)
theorem Qui.range {w : World} {g : Nat} {x0 x1 x2 x3 x4 : Value} (h : Qui w g x0 x1 x2 x3 x4) : w.rangeAt g 0 [x0, x1, x2, x3, x4] := by
  intro j v hv
  match j, hv with
  | 0, hv => simp only [List.getElem?_cons_zero, Option.some.injEq] at hv; subst hv; exact h.c0
  | 1, hv => simp only [List.getElem?_cons_succ, List.getElem?_cons_zero, Option.some.injEq] at hv; subst hv; exact h.c1
  | 2, hv => simp only [List.getElem?_cons_succ, List.getElem?_cons_zero, Option.some.injEq] at hv; subst hv; exact h.c2
  | 3, hv => simp only [List.getElem?_cons_succ, List.getElem?_cons_zero, Option.some.injEq] at hv; subst hv; exact h.c3
  | 4, hv => simp only [List.getElem?_cons_succ, List.getElem?_cons_zero, Option.some.injEq] at hv; subst hv; exact h.c4
theorem info42 : (Try.prog.info? 42).map (·.size) = some 5 := by kernel_rfl
theorem results_ex {fn : Func} {p : Tmp} (h : fn.results = #[.cell p 42]) (tmps : Array Value) (w : World) (g : Nat) {x0 x1 x2 x3 x4 : Value} (ht : Qui w g x0 x1 x2 x3 x4) (hp : tmps.getD p undef = .pointer (some ⟨g, 0, none⟩)) :
    (results fn tmps).run Try.prog w = .ok (.agg #[x0, x1, x2, x3, x4]) w := by
  have hp' : tmps[p]?.getD undef = .pointer (some ⟨g, 0, none⟩) := by simpa using hp
  simp [results, h, hp', asAddr, run_loadVar_mid (P := Try.prog) w g 0 42 [x0, x1, x2, x3, x4] _ ht.range Try.underlying42 rfl info42]
abbrev E0 : ByteArray := ⟨#[]⟩
/-- An expression of an operator and its parts. -/
abbrev opE (op : ByteArray) (l : List Ex) : Ex := .mk op 0 E0 E0 l
theorem exs_one {w : World} {g : Nat} {x : Ex} {x0 x1 x2 x3 x4 : Value} {t : TypeId} (h : w.heap[g]? = some (.cells #[x0, x1, x2, x3, x4] t (0, 0))) (hx : ExAt w x (.agg #[x0, x1, x2, x3, x4])) : ExsAt w [x] (some ⟨g, 0, none⟩) 0 := by
  have hq := qui_of h
  unfold ExsAt
  refine ⟨⟨g, 0, x0, x1, x2, x3, x4, rfl, hq.c0, hq.c1, hq.c2, hq.c3, hq.c4, hx⟩, ?_⟩
  unfold ExsAt
  trivial
theorem exs_two {w : World} {g : Nat} {x y : Ex} {x0 x1 x2 x3 x4 y0 y1 y2 y3 y4 : Value} {t : TypeId} (h : w.heap[g]? = some (.cells #[x0, x1, x2, x3, x4, y0, y1, y2, y3, y4] t (0, 0))) (hx : ExAt w x (.agg #[x0, x1, x2, x3, x4])) (hy : ExAt w y (.agg #[y0, y1, y2, y3, y4])) : ExsAt w [x, y] (some ⟨g, 0, none⟩) 0 := by
  have e : ∀ j, w.cell? ⟨g, j, none⟩ = #[x0, x1, x2, x3, x4, y0, y1, y2, y3, y4][j]? := fun j => by rw [cell_of_row _ _ _ _ _ _ h]
  unfold ExsAt
  refine ⟨⟨g, 0, x0, x1, x2, x3, x4, rfl, e 0, e 1, e 2, e 3, e 4, hx⟩, ?_⟩
  unfold ExsAt
  refine ⟨⟨g, 0, y0, y1, y2, y3, y4, rfl, e 5, e 6, e 7, e 8, e 9, hy⟩, ?_⟩
  unfold ExsAt
  trivial
theorem heap2 (w : World) (A B C : Obj) : (((w.alloc A).alloc B).alloc C).heap[w.heap.size + 1]? = some B ∧ (((w.alloc A).alloc B).alloc C).heap[w.heap.size + 1 + 1]? = some C := by
  have s1 : (w.alloc A).heap.size = w.heap.size + 1 := by simp
  have s2 : ((w.alloc A).alloc B).heap.size = w.heap.size + 1 + 1 := by simp
  refine ⟨?_, ?_⟩
  · rw [Below.heap_alloc _ C (w.heap.size + 1) (by rw [s2]; omega)]
    have := heap_alloc_new (w.alloc A) B
    rw [s1] at this
    exact this
  · have := heap_alloc_new ((w.alloc A).alloc B) C
    rw [s2] at this
    exact this
theorem heap3 (w : World) (A B C D : Obj) : ((((w.alloc A).alloc B).alloc C).alloc D).heap[w.heap.size + 1 + 1]? = some C ∧ ((((w.alloc A).alloc B).alloc C).alloc D).heap[w.heap.size + 1 + 1 + 1]? = some D := by
  have := heap2 (w.alloc A) B C D
  rw [show (w.alloc A).heap.size = w.heap.size + 1 by simp] at this
  exact this
set_option maxHeartbeats 2000000 in
theorem not_any {w : World} (x : Ex) (v : Value) (hx : ExAt w x v) : Calls Try.prog 21 #[v] w fun e w' => (∃ u, e = .returned u ∧ ExAt w' (opE ⟨#[78, 79, 84]⟩ [x]) u) ∧ Fr w w' (fun _ => False) := by
  obtain ⟨op, num, text, of_, args⟩ := x
  have hE2 := hx
  unfold ExAt at hE2
  obtain ⟨a, c, rfl, hal, _⟩ := hE2
  obtain ⟨n, hn⟩ : ∃ n, args.length = n := ⟨_, rfl⟩
  rw [hn] at hx ⊢
  have HX := hide hx
  clear hx hal
  go_enter Try.func21, Try.ntmps21
  go_wp2
  have F : ∀ A B C : Obj, Fr w (((w.alloc A).alloc B).alloc C) (fun _ => False) := fun A B C => ((Fr.alloc _ _ _).two (Fr.alloc _ _ _)).two (Fr.alloc _ _ _)
  refine bodyPost_ret (results_ex Try.results21 _ _ (w.heap.size + 1) (qui_of (heap2 w _ _ _).1) rfl) rfl ⟨⟨_, rfl, ?_⟩, F _ _ _⟩
  unfold ExAt
  exact ⟨_, _, rfl, by simp, exs_one (heap2 w _ _ _).2 (ExAt.fr (F _ _ _) _ _ HX.out)⟩
set_option maxHeartbeats 4000000 in
theorem two_any {w : World} (o : ByteArray) (x y : Ex) (v u : Value) (hx : ExAt w x v) (hy : ExAt w y u) : Calls Try.prog 22 #[.string o, v, u] w fun e w' => (∃ u, e = .returned u ∧ ExAt w' (opE o [x, y]) u) ∧ Fr w w' (fun _ => False) := by
  obtain ⟨op, num, text, of_, args⟩ := x
  obtain ⟨op', num', text', of', args'⟩ := y
  have hE2 := hx
  have hE3 := hy
  unfold ExAt at hE2 hE3
  obtain ⟨a, c, rfl, hal, _⟩ := hE2
  obtain ⟨a', c', rfl, hal', _⟩ := hE3
  obtain ⟨n, hn⟩ : ∃ n, args.length = n := ⟨_, rfl⟩
  obtain ⟨n', hn'⟩ : ∃ n, args'.length = n := ⟨_, rfl⟩
  rw [hn] at hx ⊢
  rw [hn'] at hy ⊢
  have HX := hide hx
  have HY := hide hy
  clear hx hy hal hal'
  go_enter Try.func22, Try.ntmps22
  go_wp2
  have F : ∀ A B C D : Obj, Fr w ((((w.alloc A).alloc B).alloc C).alloc D) (fun _ => False) := fun A B C D => (((Fr.alloc _ _ _).two (Fr.alloc _ _ _)).two (Fr.alloc _ _ _)).two (Fr.alloc _ _ _)
  have s1 : ∀ A : Obj, (w.alloc A).heap.size = w.heap.size + 1 := fun A => by simp
  refine bodyPost_ret (results_ex Try.results22 _ _ (w.heap.size + 1 + 1) (qui_of (heap3 w _ _ _ _).1) rfl) rfl ⟨⟨_, rfl, ?_⟩, F _ _ _ _⟩
  unfold ExAt
  refine ⟨_, _, rfl, by simp, exs_two (heap3 w _ _ _ _).2 (ExAt.fr (F _ _ _ _) _ _ HX.out) (ExAt.fr (F _ _ _ _) _ _ HY.out)⟩
end Go.Proofs.Ytbcmgodpplapaaa
