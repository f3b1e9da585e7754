/- A box of four cells; what a reader answers. -/
import Derived.Test.YtackfnojafinpaaDoorC
import Derived.Deep.MidRow
namespace Go.Proofs.YtackfnojafinpaaDoor
open Go.RowKit
set_option linter.unusedVariables false

/-- A box of four cells. -/
structure Four (w : World) (g : Nat) (x0 x1 x2 x3 : Value) : Prop where
  c0 : w.cell? ⟨g, 0, none⟩ = some x0
  c1 : w.cell? ⟨g, 1, none⟩ = some x1
  c2 : w.cell? ⟨g, 2, none⟩ = some x2
  c3 : w.cell? ⟨g, 3, none⟩ = some x3
  z : ∀ j, w.frozen? ⟨g, j, none⟩ = false
theorem four_of {w : World} {g : Nat} {x0 x1 x2 x3 : Value} {t : TypeId} (h : w.heap[g]? = some (.cells #[x0, x1, x2, x3] t (0, 0))) : Four w g x0 x1 x2 x3 := by
  refine ⟨?_, ?_, ?_, ?_, ?_⟩
  all_goals first | (rw [cell_of_row _ _ _ _ _ _ h]; rfl) | (intro j; simp [World.frozen?, h])
theorem Four.fr {w w' : World} {X : Nat → Prop} {g : Nat} {x0 x1 x2 x3 : Value} (h : Four w g x0 x1 x2 x3) (hf : Fr w w' X) (hx : ¬ X g) : Four w' g x0 x1 x2 x3 := by
  have hb := hf.block g (World.block_lt_of_cell? w _ h.c0) hx
  exact ⟨by rw [World.cell?_of_block (w := w) hb]; exact h.c0, by rw [World.cell?_of_block (w := w) hb]; exact h.c1, by rw [World.cell?_of_block (w := w) hb]; exact h.c2, by rw [World.cell?_of_block (w := w) hb]; exact h.c3, fun j => by rw [World.frozen?_of_block (w := w) hb]; exact h.z j⟩
theorem Four.set0 {w : World} {g : Nat} {x0 x1 x2 x3 : Value} (h : Four w g x0 x1 x2 x3) (v : Value) : Four (w.setCell ⟨g, 0, none⟩ v) g v x1 x2 x3 :=
  ⟨World.cell?_setCell_same _ _ _ h.c0, by rw [World.cell?_setCell_other _ _ _ _ (by simp)]; exact h.c1, by rw [World.cell?_setCell_other _ _ _ _ (by simp)]; exact h.c2, by rw [World.cell?_setCell_other _ _ _ _ (by simp)]; exact h.c3, fun j => by rw [World.frozen?_setCell]; exact h.z j⟩
theorem Four.set1 {w : World} {g : Nat} {x0 x1 x2 x3 : Value} (h : Four w g x0 x1 x2 x3) (v : Value) : Four (w.setCell ⟨g, 1, none⟩ v) g x0 v x2 x3 :=
  ⟨by rw [World.cell?_setCell_other _ _ _ _ (by simp)]; exact h.c0, World.cell?_setCell_same _ _ _ h.c1, by rw [World.cell?_setCell_other _ _ _ _ (by simp)]; exact h.c2, by rw [World.cell?_setCell_other _ _ _ _ (by simp)]; exact h.c3, fun j => by rw [World.frozen?_setCell]; exact h.z j⟩
theorem Four.set2 {w : World} {g : Nat} {x0 x1 x2 x3 : Value} (h : Four w g x0 x1 x2 x3) (v : Value) : Four (w.setCell ⟨g, 2, none⟩ v) g x0 x1 v x3 :=
  ⟨by rw [World.cell?_setCell_other _ _ _ _ (by simp)]; exact h.c0, by rw [World.cell?_setCell_other _ _ _ _ (by simp)]; exact h.c1, World.cell?_setCell_same _ _ _ h.c2, by rw [World.cell?_setCell_other _ _ _ _ (by simp)]; exact h.c3, fun j => by rw [World.frozen?_setCell]; exact h.z j⟩
theorem Four.set3 {w : World} {g : Nat} {x0 x1 x2 x3 : Value} (h : Four w g x0 x1 x2 x3) (v : Value) : Four (w.setCell ⟨g, 3, none⟩ v) g x0 x1 x2 v :=
  ⟨by rw [World.cell?_setCell_other _ _ _ _ (by simp)]; exact h.c0, by rw [World.cell?_setCell_other _ _ _ _ (by simp)]; exact h.c1, by rw [World.cell?_setCell_other _ _ _ _ (by simp)]; exact h.c2, World.cell?_setCell_same _ _ _ h.c3, fun j => by rw [World.frozen?_setCell]; exact h.z j⟩
/-- A box is filled. -/
def fill (w : World) (g : Nat) (x0 x1 x2 x3 : Value) : World := (((w.setCell ⟨g, 0, none⟩ x0).setCell ⟨g, 1, none⟩ x1).setCell ⟨g, 2, none⟩ x2).setCell ⟨g, 3, none⟩ x3
theorem Four.fill {w : World} {g : Nat} {y0 y1 y2 y3 : Value} (h : Four w g y0 y1 y2 y3) (x0 x1 x2 x3 : Value) : Four (fill w g x0 x1 x2 x3) g x0 x1 x2 x3 :=
  (((h.set0 x0).set1 x1).set2 x2).set3 x3
theorem fill_fr (w : World) (g : Nat) (x0 x1 x2 x3 : Value) : Fr w (fill w g x0 x1 x2 x3) (fun k => k = g) :=
  ((((Fr.setCell w ⟨g, 0, none⟩ x0).trans (Fr.setCell _ ⟨g, 1, none⟩ x1)).trans (Fr.setCell _ ⟨g, 2, none⟩ x2)).trans (Fr.setCell _ ⟨g, 3, none⟩ x3)).mono (fun q hq h => by rcases h with ((h | h) | h) | h <;> exact h)
theorem Four.range {w : World} {g : Nat} {x0 x1 x2 x3 : Value} (h : Four w g x0 x1 x2 x3) : w.rangeAt g 0 [x0, x1, x2, x3] := by
  intro j v hv
  match j, hv with
  | 0, hv => simp only [List.getElem?_cons_zero, Option.some.injEq] at hv; subst hv; exact h.c0
  | 1, hv => simp only [List.getElem?_cons_succ, List.getElem?_cons_zero, Option.some.injEq] at hv; subst hv; exact h.c1
  | 2, hv => simp only [List.getElem?_cons_succ, List.getElem?_cons_zero, Option.some.injEq] at hv; subst hv; exact h.c2
  | 3, hv => simp only [List.getElem?_cons_succ, List.getElem?_cons_zero, Option.some.injEq] at hv; subst hv; exact h.c3
  | j + 4, hv => simp at hv
theorem info36 : (Tryd.prog.info? 36).map (·.size) = some 4 := by kernel_rfl
theorem results_tok {fn : Func} {p q : Tmp} (h : fn.results = #[.cell p 36, .tmp q]) (tmps : Array Value) (w : World) (g : Nat) {x0 x1 x2 x3 : Value} (ht : Four w g x0 x1 x2 x3) (hp : tmps.getD p undef = .pointer (some ⟨g, 0, none⟩)) :
    (results fn tmps).run Tryd.prog w = .ok (.tuple #[.agg #[x0, x1, x2, x3], tmps.getD q undef]) w := by
  have hp' : tmps[p]?.getD undef = .pointer (some ⟨g, 0, none⟩) := by simpa using hp
  simp [results, h, hp', asAddr, run_loadVar_mid (P := Tryd.prog) w g 0 36 [x0, x1, x2, x3] _ ht.range Tryd.underlying36 rfl info36]
/-- A new box, filled behind some calls. -/
theorem box_fr {w W : World} {o : Obj} (hf : Fr (w.alloc o) W (fun _ => False)) (x0 x1 x2 x3 : Value) : Fr w (fill W w.heap.size x0 x1 x2 x3) (fun _ => False) :=
  (((Fr.alloc w o (fun _ => False)).trans hf).trans (fill_fr W w.heap.size x0 x1 x2 x3)).mono (fun q hq h => by rcases h with (h | h) | h; exact h; exact h; omega)
end Go.Proofs.YtackfnojafinpaaDoor
