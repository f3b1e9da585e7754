/- Calls that come in. -/
import Derived.Test.YtklnaeldhdhmiaaX8
import Derived.Test.YtklnaeldhdhmiaaQ
namespace Go.Proofs.Ytklnaeldhdhmiaa
open Go.RowKit Go.Sort Go.ChangeShapes Go.WideShapes Go.ChangeAt Go.Deep
set_option maxRecDepth 100000
set_option linter.unusedVariables false

theorem cells3 : Try.prog.cellsOf 3 = 1 := by kernel_rfl
theorem cells28 : Try.prog.cellsOf 28 = 3 := by kernel_rfl
theorem cells30 : Try.prog.cellsOf 30 = 7 := by kernel_rfl
theorem trod_pt {H : Type} {enc : TypeId × Value → H} {W : World} (fuel : Nat) (cs : List Value) (d : DataW H) (p : List MemPlace) (h : DataW.trod enc Try.prog W 0 (fun _ => true) true fuel 28 cs = some (d, p)) : ∃ x : Pt, cs = ptc x ∧ In64 x.x ∧ In64 x.y ∧ In64 x.id := by
  obtain ⟨xs, n, _, hd, hl, hxl, hf⟩ := DataW.trod_struct Try.underlying28 h
  rw [cells28] at hl
  match cs, hl with
  | [c0, c1, c2], _ =>
    have hxl2 : xs.length = 3 := hxl
    match xs, hxl2 with
    | [y0, y1, y2], _ =>
      have f0 : DataW.trod enc Try.prog W 0 (fun _ => true) true n 2 (([c0, c1, c2].drop 0).take (Try.prog.cellsOf 2)) = [y0, y1, y2][0]? := hf 0 _ rfl
      rw [cells2] at f0
      change DataW.trod enc Try.prog W 0 (fun _ => true) true n 2 [c0] = some y0 at f0
      have f1 : DataW.trod enc Try.prog W 0 (fun _ => true) true n 2 (([c0, c1, c2].drop 1).take (Try.prog.cellsOf 2)) = [y0, y1, y2][1]? := hf 1 _ rfl
      rw [cells2] at f1
      change DataW.trod enc Try.prog W 0 (fun _ => true) true n 2 [c1] = some y1 at f1
      have f2 : DataW.trod enc Try.prog W 0 (fun _ => true) true n 2 (([c0, c1, c2].drop 2).take (Try.prog.cellsOf 2)) = [y0, y1, y2][2]? := hf 2 _ rfl
      rw [cells2] at f2
      change DataW.trod enc Try.prog W 0 (fun _ => true) true n 2 [c2] = some y2 at f2
      obtain ⟨k, e0, _, w0⟩ := DataW.trod_int Try.underlying2 f0
      obtain ⟨q, e1, _, w1⟩ := DataW.trod_int Try.underlying2 f1
      obtain ⟨r, e2, _, w2⟩ := DataW.trod_int Try.underlying2 f2
      simp only [List.cons.injEq, and_true] at e0 e1 e2
      subst e0 e1 e2
      exact ⟨⟨k, q, r⟩, rfl, in64_of w0, in64_of w1, in64_of w2⟩
theorem trod_opn {H : Type} {enc : TypeId × Value → H} {W : World} (fuel : Nat) (cs : List Value) (d : DataW H) (p : List MemPlace) (h : DataW.trod enc Try.prog W 0 (fun _ => true) true fuel 30 cs = some (d, p)) : ∃ x : Opn, cs = x.cells ∧ (x.Ok ∧ 1 ≤ Rows.uptoBulk d) := by
  obtain ⟨xs, n, _, hd, hl, hxl, hf⟩ := DataW.trod_struct Try.underlying30 h
  rw [cells30] at hl
  match cs, hl with
  | [c0, c1, c2, c3, c4, c5, c6], _ =>
    have hxl2 : xs.length = 5 := hxl
    match xs, hxl2 with
    | [y0, y1, y2, y3, y4], _ =>
      have f0 : DataW.trod enc Try.prog W 0 (fun _ => true) true n 3 (([c0, c1, c2, c3, c4, c5, c6].drop 0).take (Try.prog.cellsOf 3)) = [y0, y1, y2, y3, y4][0]? := hf 0 _ rfl
      rw [cells3] at f0
      change DataW.trod enc Try.prog W 0 (fun _ => true) true n 3 [c0] = some y0 at f0
      have f1 : DataW.trod enc Try.prog W 0 (fun _ => true) true n 28 (([c0, c1, c2, c3, c4, c5, c6].drop 1).take (Try.prog.cellsOf 28)) = [y0, y1, y2, y3, y4][1]? := hf 1 _ rfl
      rw [cells28] at f1
      change DataW.trod enc Try.prog W 0 (fun _ => true) true n 28 [c1, c2, c3] = some y1 at f1
      have f2 : DataW.trod enc Try.prog W 0 (fun _ => true) true n 2 (([c0, c1, c2, c3, c4, c5, c6].drop 4).take (Try.prog.cellsOf 2)) = [y0, y1, y2, y3, y4][2]? := hf 2 _ rfl
      rw [cells2] at f2
      change DataW.trod enc Try.prog W 0 (fun _ => true) true n 2 [c4] = some y2 at f2
      have f3 : DataW.trod enc Try.prog W 0 (fun _ => true) true n 2 (([c0, c1, c2, c3, c4, c5, c6].drop 5).take (Try.prog.cellsOf 2)) = [y0, y1, y2, y3, y4][3]? := hf 3 _ rfl
      rw [cells2] at f3
      change DataW.trod enc Try.prog W 0 (fun _ => true) true n 2 [c5] = some y3 at f3
      have f4 : DataW.trod enc Try.prog W 0 (fun _ => true) true n 2 (([c0, c1, c2, c3, c4, c5, c6].drop 6).take (Try.prog.cellsOf 2)) = [y0, y1, y2, y3, y4][4]? := hf 4 _ rfl
      rw [cells2] at f4
      change DataW.trod enc Try.prog W 0 (fun _ => true) true n 2 [c6] = some y4 at f4
      obtain ⟨k, e0, _, w0⟩ := DataW.trod_int Try.underlying3 f0
      obtain ⟨x, e1, i1, i2, i3⟩ := trod_pt n _ _ _ f1
      obtain ⟨q, e2, _, w2⟩ := DataW.trod_int Try.underlying2 f2
      obtain ⟨r, e3, _, w3⟩ := DataW.trod_int Try.underlying2 f3
      obtain ⟨s, e4, _, w4⟩ := DataW.trod_int Try.underlying2 f4
      unfold ptc at e1
      simp only [List.cons.injEq, and_true] at e0 e1 e2 e3 e4
      obtain ⟨a1, a2, a3⟩ := e1
      subst e0 a1 a2 a3 e2 e3 e4
      exact ⟨⟨k, x, q, r, s⟩, rfl, ⟨i1, i2, i3⟩, bulk_one_le d⟩
theorem open_opn {H : Type} {enc : TypeId × Value → H} {W : World} {v : Value} {d : DataW H} {p : List MemPlace} (h : ∃ fuel, DataW.trod enc Try.prog W 0 (fun _ => true) true fuel 22 [v] = some (d, p)) (hs : Rows.uptoBulk d ≤ 1048576) :
    ∃ (a : Option Addr) (n c : Nat) (L : List Opn), v = .slice a n c ∧ L.length = n ∧ OpsIn W a L ∧ n ≤ 1048576 ∧ (∀ x ∈ L, x.Ok) := by
  obtain ⟨fuel, hf⟩ := h
  obtain ⟨a, n, c, L, B, hv, hL, hB, _, _, hS, hOk, hR⟩ := open_row (d := d) (p := p) Try.underlying22 cells30 (by omega) Opn.cells (fun _ => rfl) (fun x b => x.Ok ∧ 1 ≤ b) (fun n cs D Pl h => trod_opn n cs D Pl h) hf
  have hsum : ∀ (B : List Nat), (∀ b ∈ B, 1 ≤ b) → B.length ≤ B.sum := by
    intro B
    induction B with
    | nil => intro _; simp
    | cons b B ih => intro hb; have h1 := ih (fun x hx => hb x (by simp [hx])); have h2 := hb b (by simp); simp only [List.length_cons, List.sum_cons]; omega
  have hb1 : ∀ b ∈ B, 1 ≤ b := fun b hb => by
    obtain ⟨i, hi⟩ := List.getElem?_of_mem hb
    obtain ⟨x, hx⟩ : ∃ x, L[i]? = some x := ⟨_, List.getElem?_eq_getElem (by have := (List.getElem?_eq_some_iff.1 hi).1; omega)⟩
    exact (hOk i x b hx hi).2
  have hq := hsum B hb1
  refine ⟨a, n, c, L, hv, hL, ?_, by omega, fun x hx => ?_⟩
  · intro i x hx
    obtain ⟨g, off, ha, hr⟩ := hR i x hx
    have c0 : W.cell? ⟨g, off + i * 7, none⟩ = some (.int .i64 x.k) := by have := hr 0 _ rfl; simpa using this
    exact ⟨g, off, ha, World.block_lt_of_cell? W _ c0, c0, hr 1 _ rfl, hr 2 _ rfl, hr 3 _ rfl, hr 4 _ rfl, hr 5 _ rfl, hr 6 _ rfl⟩
  · obtain ⟨i, hi⟩ := List.getElem?_of_mem hx
    obtain ⟨b, hb⟩ : ∃ b, B[i]? = some b := ⟨_, List.getElem?_eq_getElem (by have := (List.getElem?_eq_some_iff.1 hi).1; omega)⟩
    exact (hOk i x b hi hb).1
end Go.Proofs.Ytklnaeldhdhmiaa
