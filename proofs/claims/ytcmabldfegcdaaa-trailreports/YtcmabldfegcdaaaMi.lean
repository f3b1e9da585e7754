/- A slice of entries, read. -/
import Derived.Test.YtcmabldfegcdaaaMh
import Derived.Test.YtcmabldfegcdaaaO
namespace Go.Proofs.Ytcmabldfegcdaaa
open Go.ChangeShapes Go.WideShapes Go.ChangeAt Go.RowKit Go.Deep
set_option maxRecDepth 100000
set_option linter.unusedVariables false
set_option linter.unusedSimpArgs false
set_option maxRecDepth 100000 in
theorem trod_ent2 {H : Type} {enc : TypeId × Value → H} {W : World} {fuel : Nat} {cs : List Value} {d : DataW H} {p : List MemPlace} (h : DataW.trod enc Try.prog W 0 (fun _ => true) true fuel 31 cs = some (d, p)) (hs : SizedD 31 d) :
    ∃ (e : Ent) (a : Option Addr) (c : Nat), cs = [.int .i64 e.kind, .int .i64 e.txn, .int .i64 e.page, .int .i64 e.slot, .int .i64 e.stamp, .slice a e.data.length c] ∧ BI W a e.data.length e.data ∧ (a = none → c = 0) ∧ In64 e.txn ∧ In64 e.page ∧ e.data.length ≤ 140737488351232 := by
  obtain ⟨xs, n, _, hd, hl, hxl, hf⟩ := DataW.trod_struct Try.underlying31 h
  rw [cells24] at hl
  match cs, hl with
  | [c0, c1, c2, c3, c4, c5], _ =>
    have hxl6 : xs.length = 6 := hxl
    match xs, hxl6 with
    | [y0, y1, y2, y3, y4, y5], _ =>
      have f0 : DataW.trod enc Try.prog W 0 (fun _ => true) true n 3 (([c0, c1, c2, c3, c4, c5].drop 0).take (Try.prog.cellsOf 3)) = [y0, y1, y2, y3, y4, y5][0]? := hf 0 _ rfl
      rw [cells3] at f0
      change DataW.trod enc Try.prog W 0 (fun _ => true) true n 3 [c0] = some y0 at f0
      have f1 : DataW.trod enc Try.prog W 0 (fun _ => true) true n 2 (([c0, c1, c2, c3, c4, c5].drop 1).take (Try.prog.cellsOf 2)) = [y0, y1, y2, y3, y4, y5][1]? := hf 1 _ rfl
      rw [cells2] at f1
      change DataW.trod enc Try.prog W 0 (fun _ => true) true n 2 [c1] = some y1 at f1
      have f2 : DataW.trod enc Try.prog W 0 (fun _ => true) true n 3 (([c0, c1, c2, c3, c4, c5].drop 2).take (Try.prog.cellsOf 3)) = [y0, y1, y2, y3, y4, y5][2]? := hf 2 _ rfl
      rw [cells3] at f2
      change DataW.trod enc Try.prog W 0 (fun _ => true) true n 3 [c2] = some y2 at f2
      have f3 : DataW.trod enc Try.prog W 0 (fun _ => true) true n 3 (([c0, c1, c2, c3, c4, c5].drop 3).take (Try.prog.cellsOf 3)) = [y0, y1, y2, y3, y4, y5][3]? := hf 3 _ rfl
      rw [cells3] at f3
      change DataW.trod enc Try.prog W 0 (fun _ => true) true n 3 [c3] = some y3 at f3
      have f4 : DataW.trod enc Try.prog W 0 (fun _ => true) true n 2 (([c0, c1, c2, c3, c4, c5].drop 4).take (Try.prog.cellsOf 2)) = [y0, y1, y2, y3, y4, y5][4]? := hf 4 _ rfl
      rw [cells2] at f4
      change DataW.trod enc Try.prog W 0 (fun _ => true) true n 2 [c4] = some y4 at f4
      have f5 : DataW.trod enc Try.prog W 0 (fun _ => true) true n 29 (([c0, c1, c2, c3, c4, c5].drop 5).take (Try.prog.cellsOf 29)) = [y0, y1, y2, y3, y4, y5][5]? := hf 5 _ rfl
      rw [cells22] at f5
      change DataW.trod enc Try.prog W 0 (fun _ => true) true n 29 [c5] = some y5 at f5
      obtain ⟨k, e0, _⟩ := DataW.trod_int Try.underlying3 f0
      obtain ⟨t, e1, _, w1⟩ := DataW.trod_int Try.underlying2 f1
      obtain ⟨pg, e2, _, w2⟩ := DataW.trod_int Try.underlying3 f2
      obtain ⟨s, e3, _⟩ := DataW.trod_int Try.underlying3 f3
      obtain ⟨m, e4, _⟩ := DataW.trod_int Try.underlying2 f4
      have hs5 : SizedD 29 y5.1 := by
        have hd1 : d = .agg [y0.1, y1.1, y2.1, y3.1, y4.1, y5.1] := (Prod.mk.inj hd).1
        rw [hd1] at hs
        exact hs.part (weights24 _) (j := 5) rfl rfl
      obtain ⟨a', n', c', l, e5, b1, b2, b3, b4⟩ := trod_bytes (d := y5.1) (p := y5.2) f5 hs5
      simp only [List.cons.injEq, and_true] at e0 e1 e2 e3 e4
      subst e0 e1 e2 e3 e4 e5
      have hl : l.length = n' := b1.1
      subst hl
      exact ⟨⟨k, t, pg, s, m, l⟩, a', c', rfl, b1, b4, in64_of w1, in64_of w2, b2⟩

theorem cell_of_cells {W : World} {a : Addr} {n : Nat} {cs : List Value} (h : W.cells? 0 a n = some cs) (i : Nat) (hi : i < n) : W.cell? (a.add i) = cs[i]? := (World.cells?_some h).2.2 i hi
theorem bytes31 : Try.prog.bytesOf 31 = 64 := by kernel_rfl
def ErOk (W : World) (x : Er) : Prop := BI W x.2.1 x.1.data.length x.1.data ∧ (x.2.1 = none → x.2.2 = 0) ∧ x.1.data.length ≤ 140737488355328
theorem open_ents {H : Type} {enc : TypeId × Value → H} {W : World} {a : Option Addr} {len cap : Nat} {d : DataW H} {p : List MemPlace} (h : DataW.Trod enc Try.prog W 0 (fun _ => true) true 22 (.slice a len cap) d p) (hs : SizedD 22 d) :
    ∃ L : List Er, L.length = len ∧ EntsIn W a L ∧ (∀ x ∈ L, In64 x.1.txn ∧ In64 x.1.page) ∧ len ≤ 2199023255552 ∧ len ≤ cap := by
  obtain ⟨fuel, hf⟩ := h
  rcases open_slice Try.underlying22 hf with ⟨hcs, _⟩ | ⟨x, l, c, m, n, D, Pl, hcs, _, hl, _, hm, hx, hel⟩
  · simp [Value.cells] at hcs
    obtain ⟨rfl, rfl, rfl⟩ := hcs
    exact ⟨[], rfl, fun i x h => by simp at h, fun x h => by simp at h, by omega, by omega⟩
  · simp [Value.cells] at hcs
    obtain ⟨rfl, rfl, rfl⟩ := hcs
    simp only [Prod.mk.injEq] at hx
    obtain ⟨rfl, _⟩ := hx
    simp only [if_true] at hm
    subst hm
    obtain ⟨hb, hsz⟩ := hs.slice Try.underlying22
    rw [bytes31] at hb
    simp only [List.length_map, List.length_range, reachBytes] at hb
    rw [cells24] at hel
    have key : ∀ j, j < len → ∃ o : Er, W.cells? 0 (x.add (j * 6)) 6 = some (ecells o) ∧ ErOk W o ∧ In64 o.1.txn ∧ In64 o.1.page := by
      intro j hj
      obtain ⟨cs', h1, h2⟩ := hel j (by omega)
      obtain ⟨e, ea, ec, hcs, b1, b2, b3, b4, b5⟩ := trod_ent2 h2 (hsz _ (List.mem_map.2 ⟨j, List.mem_range.2 hj, rfl⟩))
      subst hcs
      exact ⟨(e, ea, ec), h1, ⟨b1, b2, by simp only []; omega⟩, b3, b4⟩
    have hin : ∀ y ∈ (List.range len).map fun j => if hj : j < len then Classical.choose (key j hj) else ((⟨0, 0, 0, 0, 0, []⟩, none, 0) : Er), In64 y.1.txn ∧ In64 y.1.page := by
      intro y hy
      obtain ⟨j, hj, rfl⟩ := List.mem_map.1 hy
      have hj := List.mem_range.1 hj
      rw [dif_pos hj]
      exact (Classical.choose_spec (key j hj)).2.2
    refine ⟨(List.range len).map fun j => if hj : j < len then Classical.choose (key j hj) else ((⟨0, 0, 0, 0, 0, []⟩, none, 0) : Er), by simp, ?_, hin, by omega, hl⟩
    intro j o ho
    simp only [List.getElem?_map] at ho
    by_cases hj : j < len
    · simp only [List.getElem?_range, hj, Option.map_some, Option.some.injEq, dif_pos] at ho
      have hs := Classical.choose_spec (key j hj)
      rw [ho] at hs
      obtain ⟨b, off, spot⟩ := x
      have hspot : spot = none := by
        obtain ⟨o', h1, _⟩ := key 0 (by omega)
        have h2 := cell_of_cells h1 0 (by omega)
        simpa [Addr.add] using World.cell?_spot (h2.trans (show (ecells o')[0]? = some (.int .i64 o'.1.kind) from rfl))
      subst hspot
      refine ⟨⟨b, off, rfl, fun i v hv => ?_⟩, hs.2.1⟩
      have hi : i < 6 := (List.getElem?_eq_some_iff.1 hv).1
      have h3 := cell_of_cells hs.1 i hi
      rw [Addr.add_mid, Addr.add_mid] at h3
      rw [h3]
      exact hv
    · rw [List.getElem?_eq_none (by simpa using hj)] at ho
      cases ho
end Go.Proofs.Ytcmabldfegcdaaa
