/- What comes in: a row of values, of bounded bulk. -/
import Derived.Test.YtdeopneififnnaaOp
import Derived.Test.YtdeopneififnnaaQc
namespace Go.Proofs.Ytdeopneififnnaa
open Go.ChangeShapes Go.WideShapes Go.ChangeAt Go.RowKit Go.Deep
set_option maxRecDepth 100000
set_option linter.unusedVariables false

theorem cells2 : Try.prog.cellsOf 2 = 1 := by kernel_rfl
theorem cells56 : Try.prog.cellsOf 56 = 3 := by kernel_rfl
theorem trod_val {H : Type} {enc : TypeId × Value → H} {W : World} (fuel : Nat) (cs : List Value) (d : DataW H) (p : List MemPlace) (h : DataW.trod enc Try.prog W 0 (fun _ => true) true fuel 56 cs = some (d, p)) : ∃ x : Vl, cs = x.cells ∧ In64 x.kind ∧ In64 x.int := by
  obtain ⟨xs, n, _, hd, hl, hxl, hf⟩ := DataW.trod_struct Try.underlying56 h
  rw [cells56] at hl
  match cs, hl with
  | [c0, c1, c2], _ =>
    have hxl3 : xs.length = 3 := hxl
    match xs, hxl3 with
    | [y0, y1, y2], _ =>
      have f0 : DataW.trod enc Try.prog W 0 (fun _ => true) true n 3 (([c0, c1, c2].drop 0).take (Try.prog.cellsOf 3)) = [y0, y1, y2][0]? := hf 0 _ rfl
      rw [cells3] at f0
      change DataW.trod enc Try.prog W 0 (fun _ => true) true n 3 [c0] = some y0 at f0
      have f1 : DataW.trod enc Try.prog W 0 (fun _ => true) true n 2 (([c0, c1, c2].drop 1).take (Try.prog.cellsOf 2)) = [y0, y1, y2][1]? := hf 1 _ rfl
      rw [cells2] at f1
      change DataW.trod enc Try.prog W 0 (fun _ => true) true n 2 [c1] = some y1 at f1
      have f2 : DataW.trod enc Try.prog W 0 (fun _ => true) true n 9 (([c0, c1, c2].drop 2).take (Try.prog.cellsOf 9)) = [y0, y1, y2][2]? := hf 2 _ rfl
      rw [cells9] at f2
      change DataW.trod enc Try.prog W 0 (fun _ => true) true n 9 [c2] = some y2 at f2
      obtain ⟨k, e0, hk⟩ := DataW.trod_int Try.underlying3 f0
      obtain ⟨i, e1, hi⟩ := DataW.trod_int Try.underlying2 f1
      obtain ⟨s, e2, _⟩ := DataW.trod_string Try.underlying9 f2
      simp only [List.cons.injEq, and_true] at e0 e1 e2
      subst e0 e1 e2
      exact ⟨⟨k, i, s⟩, rfl, in64_of hk.2, in64_of hi.2⟩
theorem open_vals {H : Type} {enc : TypeId × Value → H} {W : World} {v : Value} {d : DataW H} {p : List MemPlace} (h : ∃ fuel, DataW.trod enc Try.prog W 0 (fun _ => true) true fuel 46 [v] = some (d, p)) (hs : Rows.uptoBulk d ≤ 1048576) : ∃ (a : Option Addr) (n c : Nat) (R : List Vl), v = .slice a n c ∧ ValsIn (fun _ => True) W a R ∧ R.length = n ∧ n ≤ 1048576 ∧ n ≤ c ∧ ∀ x ∈ R, In64 x.int := by
  obtain ⟨fuel, hf⟩ := h
  obtain ⟨a, n, c, R, B, rfl, hR, hB, hnc, _, hS, hOk, hRa⟩ := open_row (d := d) (p := p) Try.underlying46 cells56 (by omega) Vl.cells (fun _ => rfl) (fun x _ => In64 x.kind ∧ In64 x.int) (fun n cs D Pl h => trod_val n cs D Pl h) hf
  have hn : n ≤ Rows.uptoBulk d := by
    rcases open_slice Try.underlying46 hf with ⟨hcs, _⟩ | ⟨x, l, c, m, n', D, Pl, hcs, _, hl, _, hm, hx, _⟩
    · simp only [List.cons.injEq, Value.slice.injEq, and_true] at hcs
      omega
    · simp only [List.cons.injEq, Value.slice.injEq, and_true] at hcs
      obtain ⟨_, rfl, _⟩ := hcs
      have hx1 := (Prod.mk.inj hx).1
      rw [hx1]
      have := bulk_length_le ((List.range n).map D)
      simp only [Rows.uptoBulk, List.length_map, List.length_range] at this ⊢
      omega
  refine ⟨a, n, c, R, rfl, fun i x hi => ?_, hR, by omega, hnc, fun x hx => ?_⟩
  · obtain ⟨g, off, ha, hr⟩ := hRa i x hi
    have e0 := hr 0 _ rfl
    rw [Nat.add_zero] at e0
    exact ⟨g, off, ha, trivial, e0, hr 1 _ rfl, hr 2 _ rfl⟩
  · obtain ⟨i, hi⟩ := List.mem_iff_getElem?.1 hx
    obtain ⟨b, hb⟩ : ∃ b, B[i]? = some b := ⟨_, List.getElem?_eq_getElem (by rw [hB, ← hR]; exact (List.getElem?_eq_some_iff.1 hi).1)⟩
    exact (hOk i x b hi hb).2
end Go.Proofs.Ytdeopneififnnaa
