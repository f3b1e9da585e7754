/- What comes in: calls. -/
import Derived.Test.YtaonhgabnbmcfaaZo
import Derived.Test.YtaonhgabnbmcfaaNi
namespace Go.Proofs.Ytaonhgabnbmcfaa
open Go.ChangeShapes Go.WideShapes Go.ChangeAt Go.RowKit Go.Deep
set_option maxRecDepth 100000
set_option linter.unusedVariables false

theorem cells31 : Try.prog.cellsOf 31 = 4 := by kernel_rfl
theorem cells3o : Try.prog.cellsOf 3 = 1 := by kernel_rfl
theorem cells2o : Try.prog.cellsOf 2 = 1 := by kernel_rfl
theorem trod_op {H : Type} {enc : TypeId × Value → H} {W : World} (fuel : Nat) (cs : List Value) (d : DataW H) (p : List MemPlace) (h : DataW.trod enc Try.prog W 0 (fun _ => true) true fuel 31 cs = some (d, p)) : ∃ x : OpT, cs = x.cells ∧ 1 ≤ Rows.uptoBulk d := by
  obtain ⟨xs, n, _, hd, hl, hxl, hf⟩ := DataW.trod_struct Try.underlying31 h
  rw [cells31] at hl
  match cs, hl with
  | [c0, c1, c2, c3], _ =>
    have hxl2 : xs.length = 4 := hxl
    match xs, hxl2 with
    | [y0, y1, y2, y3], _ =>
      have f0 : DataW.trod enc Try.prog W 0 (fun _ => true) true n 3 (([c0, c1, c2, c3].drop 0).take (Try.prog.cellsOf 3)) = [y0, y1, y2, y3][0]? := hf 0 _ rfl
      rw [cells3o] at f0
      change DataW.trod enc Try.prog W 0 (fun _ => true) true n 3 [c0] = some y0 at f0
      have f1 : DataW.trod enc Try.prog W 0 (fun _ => true) true n 9 (([c0, c1, c2, c3].drop 1).take (Try.prog.cellsOf 9)) = [y0, y1, y2, y3][1]? := hf 1 _ rfl
      rw [cells9] at f1
      change DataW.trod enc Try.prog W 0 (fun _ => true) true n 9 [c1] = some y1 at f1
      have f2 : DataW.trod enc Try.prog W 0 (fun _ => true) true n 9 (([c0, c1, c2, c3].drop 2).take (Try.prog.cellsOf 9)) = [y0, y1, y2, y3][2]? := hf 2 _ rfl
      rw [cells9] at f2
      change DataW.trod enc Try.prog W 0 (fun _ => true) true n 9 [c2] = some y2 at f2
      have f3 : DataW.trod enc Try.prog W 0 (fun _ => true) true n 2 (([c0, c1, c2, c3].drop 3).take (Try.prog.cellsOf 2)) = [y0, y1, y2, y3][3]? := hf 3 _ rfl
      rw [cells2o] at f3
      change DataW.trod enc Try.prog W 0 (fun _ => true) true n 2 [c3] = some y3 at f3
      obtain ⟨k, e0, _⟩ := DataW.trod_int Try.underlying3 f0
      obtain ⟨s, e1, _⟩ := DataW.trod_string Try.underlying9 f1
      obtain ⟨t, e2, _⟩ := DataW.trod_string Try.underlying9 f2
      obtain ⟨v, e3, _⟩ := DataW.trod_int Try.underlying2 f3
      simp only [List.cons.injEq, and_true] at e0 e1 e2 e3
      subst e0 e1 e2 e3
      exact ⟨⟨k, s, t, v⟩, rfl, bulk_one_le d⟩
theorem sum_len : ∀ (B : List Nat), (∀ b ∈ B, 1 ≤ b) → B.length ≤ B.sum
  | [], _ => Nat.le_refl _
  | b :: B, h => by
    have h1 := h b (List.mem_cons_self ..)
    have h2 := sum_len B (fun x hx => h x (List.mem_cons_of_mem _ hx))
    simp only [List.length_cons, List.sum_cons]; omega
theorem open_ops {H : Type} {enc : TypeId × Value → H} {W : World} {v : Value} {d : DataW H} {p : List MemPlace} (h : ∃ fuel, DataW.trod enc Try.prog W 0 (fun _ => true) true fuel 22 [v] = some (d, p)) (hs : Rows.uptoBulk d ≤ 1048576) : ∃ (a : Option Addr) (n c : Nat) (O : List OpT), v = .slice a n c ∧ O.length = n ∧ n ≤ 1048576 ∧ OpsIn (fun k => k < W.heap.size) W a O := by
  obtain ⟨fuel, h⟩ := h
  obtain ⟨a, n, c, L, B, e, hL, hB, _, _, hS, hOk, hR⟩ := open_row Try.underlying22 cells31 (by omega) OpT.cells (fun _ => rfl) (fun _ b => 1 ≤ b) (fun n cs D Pl h => trod_op n cs D Pl h) h
  refine ⟨a, n, c, L, e, hL, ?_, fun i x hx => ?_⟩
  · have h1 := sum_len B (fun b hb => by
      obtain ⟨i, hi⟩ := List.mem_iff_getElem?.1 hb
      have hil : i < L.length := by have := (List.getElem?_eq_some_iff.1 hi).1; omega
      exact hOk i L[i] b (List.getElem?_eq_getElem hil) hi)
    omega
  · obtain ⟨g, off, e1, hr⟩ := hR i x hx
    exact ⟨g, off, e1, World.block_lt_of_cell? W _ (hr 0 _ rfl), hr⟩
end Go.Proofs.Ytaonhgabnbmcfaa
