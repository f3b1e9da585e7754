/- What comes in: calls. -/
import Derived.Test.YtachppnakmdjhaaO
import Derived.Test.YtachppnakmdjhaaSe
namespace Go.Proofs.Ytachppnakmdjhaa
open Go.ChangeShapes Go.WideShapes Go.ChangeAt Go.RowKit Go.Deep
set_option linter.unusedVariables false

/-- A slice of bools that came in. -/
def Bools (w : World) (ka : Option Addr) (kl : Nat) (kb : List Bool) : Prop :=
  kb.length = kl ∧ (kl = 0 ∨ ∃ g off, ka = some ⟨g, off, none⟩ ∧ ∀ j v, kb[j]? = some v → w.cell? ⟨g, off + j, none⟩ = some (.bool v))

theorem Bools.keep {w w' : World} {gs : Nat} {ka : Option Addr} {kl : Nat} {kb : List Bool} (h : Bools w ka kl kb) (hf : Fr w w' (fun k => w.heap.size ≤ k)) (hg : w.heap.size ≤ gs) : KeepIs w' gs ka kl kb := by
  refine ⟨h.1, ?_⟩
  by_cases h0 : kl = 0
  · exact .inl h0
  · right
    obtain ⟨g, off, rfl, hc⟩ := h.2.resolve_left h0
    have h2 : 0 < kb.length := by rw [h.1]; omega
    have hg0 : g < w.heap.size := World.block_lt_of_cell? w _ (hc 0 _ (List.getElem?_eq_getElem h2))
    refine ⟨g, off, rfl, by omega, fun j v hv => ?_⟩
    rw [World.cell?_of_block (w := w) (hf.block g hg0 (by omega))]
    exact hc j v hv

theorem Bools.fr {w w' : World} {ka : Option Addr} {kl : Nat} {kb : List Bool} (h : Bools w ka kl kb) (hf : Fr w w' (fun _ => False)) : Bools w' ka kl kb := by
  refine ⟨h.1, h.2.imp id ?_⟩
  rintro ⟨g, off, rfl, hc⟩
  refine ⟨g, off, rfl, fun j u hu => ?_⟩
  have h1 := hc j u hu
  rw [World.cell?_of_block (w := w) (hf.block g (World.block_lt_of_cell? w _ h1) id)]
  exact h1


theorem cells46 : Try.prog.cellsOf 46 = 1 := by kernel_rfl
theorem cells47 : Try.prog.cellsOf 47 = 2 := by kernel_rfl
theorem cells49 : Try.prog.cellsOf 49 = 6 := by kernel_rfl
theorem cells4 : Try.prog.cellsOf 4 = 1 := by kernel_rfl
theorem bytes49 : Try.prog.bytesOf 49 = 80 := by kernel_rfl

/-- A call that came in. -/
structure WOp where
  kind : Int
  a : Option Addr
  n : Nat
  c : Nat
  l : List UInt8
  mark : Int
  ka : Option Addr
  kl : Nat
  kc : Nat
  kb : List Bool
  t0 : Int
  t1 : Int
def WOp.cells (o : WOp) : List Value := [.int .i64 o.kind, .slice o.a o.n o.c, .int .i64 o.mark, .slice o.ka o.kl o.kc, .int .i64 o.t0, .int .i64 o.t1]
structure WOpOk (W : World) (o : WOp) : Prop where
  data : BI W o.a o.n o.l
  size : o.n ≤ 140737488351232
  cap : o.n ≤ o.c
  nil : o.a = none → o.c = 0
  keep : Bools W o.ka o.kl o.kb
  mark : -9223372036854775808 ≤ o.mark ∧ o.mark < 9223372036854775808
theorem WOpOk.fr {W W' : World} {o : WOp} (h : WOpOk W o) (hf : Fr W W' (fun _ => False)) : WOpOk W' o :=
  ⟨h.data.fr hf (fun _ _ _ _ h => h), h.size, h.cap, h.nil, h.keep.fr hf, h.mark⟩

set_option maxRecDepth 100000 in
theorem weights49 {H : Type} (parts : List (DataW H)) : (DataW.agg parts).weights Try.prog 49 = DataW.weightsEach Try.prog [3, 45, 2, 46, 47] parts := by
  simp only [DataW.weights, Try.underlying49]
  rfl

set_option maxRecDepth 100000 in
theorem trod_wop {H : Type} {enc : TypeId × Value → H} {W : World} {fuel : Nat} {cs : List Value} {d : DataW H} {p : List MemPlace} (h : DataW.trod enc Try.prog W 0 (fun _ => true) true fuel 49 cs = some (d, p)) (hs : SizedD 49 d) :
    ∃ o : WOp, cs = o.cells ∧ WOpOk W o := by
  obtain ⟨xs, n, _, hd, hl, hxl, hf⟩ := DataW.trod_struct Try.underlying49 h
  rw [cells49] at hl
  match cs, hl with
  | [c0, c1, c2, c3, c4, c5], _ =>
    have hxl5 : xs.length = 5 := hxl
    match xs, hxl5 with
    | [y0, y1, y2, y3, y4], _ =>
      have f0 : DataW.trod enc Try.prog W 0 (fun _ => true) true n 3 (([c0, c1, c2, c3, c4, c5].drop 0).take (Try.prog.cellsOf 3)) = [y0, y1, y2, y3, y4][0]? := hf 0 _ rfl
      rw [cells3] at f0
      change DataW.trod enc Try.prog W 0 (fun _ => true) true n 3 [c0] = some y0 at f0
      have f1 : DataW.trod enc Try.prog W 0 (fun _ => true) true n 45 (([c0, c1, c2, c3, c4, c5].drop 1).take (Try.prog.cellsOf 45)) = [y0, y1, y2, y3, y4][1]? := hf 1 _ rfl
      rw [cells45] at f1
      change DataW.trod enc Try.prog W 0 (fun _ => true) true n 45 [c1] = some y1 at f1
      have f2 : DataW.trod enc Try.prog W 0 (fun _ => true) true n 2 (([c0, c1, c2, c3, c4, c5].drop 2).take (Try.prog.cellsOf 2)) = [y0, y1, y2, y3, y4][2]? := hf 2 _ rfl
      rw [cells2] at f2
      change DataW.trod enc Try.prog W 0 (fun _ => true) true n 2 [c2] = some y2 at f2
      have f3 : DataW.trod enc Try.prog W 0 (fun _ => true) true n 46 (([c0, c1, c2, c3, c4, c5].drop 3).take (Try.prog.cellsOf 46)) = [y0, y1, y2, y3, y4][3]? := hf 3 _ rfl
      rw [cells46] at f3
      change DataW.trod enc Try.prog W 0 (fun _ => true) true n 46 [c3] = some y3 at f3
      have f4 : DataW.trod enc Try.prog W 0 (fun _ => true) true n 47 (([c0, c1, c2, c3, c4, c5].drop 4).take (Try.prog.cellsOf 47)) = [y0, y1, y2, y3, y4][4]? := hf 4 _ rfl
      rw [cells47] at f4
      change DataW.trod enc Try.prog W 0 (fun _ => true) true n 47 [c4, c5] = some y4 at f4
      obtain ⟨k, e0, _⟩ := DataW.trod_int Try.underlying3 f0
      obtain ⟨m, e2, _, w2⟩ := DataW.trod_int Try.underlying2 f2
      have hs1 : SizedD 45 y1.1 := by
        have hd1 : d = .agg [y0.1, y1.1, y2.1, y3.1, y4.1] := (Prod.mk.inj hd).1
        rw [hd1] at hs
        exact hs.part (weights49 _) (j := 1) rfl rfl
      obtain ⟨a', n', c', l, e1, b1, b2, b3, b4⟩ := trod_bytes (d := y1.1) (p := y1.2) f1 hs1
      obtain ⟨zs, mm, _, _, _, hzl, hz⟩ := DataW.trod_array Try.underlying47 f4
      match zs, hzl with
      | [q0, q1], _ =>
        have g0 : DataW.trod enc Try.prog W 0 (fun _ => true) true mm 3 (([c4, c5].drop (0 * Try.prog.cellsOf 3)).take (Try.prog.cellsOf 3)) = [q0, q1][0]? := hz 0 (by omega)
        have g1 : DataW.trod enc Try.prog W 0 (fun _ => true) true mm 3 (([c4, c5].drop (1 * Try.prog.cellsOf 3)).take (Try.prog.cellsOf 3)) = [q0, q1][1]? := hz 1 (by omega)
        rw [cells3] at g0 g1
        change DataW.trod enc Try.prog W 0 (fun _ => true) true mm 3 [c4] = some q0 at g0
        change DataW.trod enc Try.prog W 0 (fun _ => true) true mm 3 [c5] = some q1 at g1
        obtain ⟨t0, e4, _⟩ := DataW.trod_int Try.underlying3 g0
        obtain ⟨t1, e5, _⟩ := DataW.trod_int Try.underlying3 g1
        simp only [List.cons.injEq, and_true] at e0 e2 e4 e5
        subst e0 e1 e2 e4 e5
        have r2 := bounds_i64 w2
        rcases open_bools Try.underlying46 Try.underlying4 cells4 f3 with ⟨hcs, _⟩ | ⟨ad, len, cap, B, hcs, _, hlc, _, _, hcell⟩
        · simp only [List.cons.injEq, and_true] at hcs
          subst hcs
          exact ⟨⟨k, a', n', c', l, m, none, 0, 0, [], t0, t1⟩, rfl, b1, b2, b3, b4, ⟨rfl, .inl rfl⟩, ⟨r2.1, by show m < _; omega⟩⟩
        · simp only [List.cons.injEq, and_true] at hcs
          subst hcs
          refine ⟨⟨k, a', n', c', l, m, some ad, len, cap, (List.range len).map B, t0, t1⟩, rfl, b1, b2, b3, b4, ⟨by simp, ?_⟩, ⟨r2.1, by show m < _; omega⟩⟩
          by_cases h0 : len = 0
          · exact .inl h0
          · right
            obtain ⟨b, off, spot⟩ := ad
            have hspot : spot = none := by simpa [Addr.add] using World.cell?_spot (hcell 0 (by omega))
            subst hspot
            refine ⟨b, off, rfl, fun j v hv => ?_⟩
            simp only [List.getElem?_map] at hv
            by_cases hj : j < len
            · rw [List.getElem?_range hj] at hv
              simp only [Option.map_some, Option.some.injEq] at hv
              rw [← hv, ← Addr.add_mid]
              exact hcell j (by omega)
            · rw [List.getElem?_eq_none (by simpa using hj)] at hv
              cases hv
set_option maxRecDepth 100000 in
theorem open_wop {H : Type} {enc : TypeId × Value → H} {W : World} {base : Nat} {v : Value} {d : DataW H} {p : List MemPlace} (hv : Value.okWide Try.prog W .any base 49 v) (h : DataW.Trod enc Try.prog W 0 (fun _ => true) true 49 v d p) (hs : SizedD 49 d) :
    ∃ o : WOp, v = .agg o.cells.toArray ∧ WOpOk W o := by
  obtain ⟨cs, rfl, _⟩ := okWide_struct Try.underlying49 hv
  obtain ⟨fuel, hf⟩ := h
  obtain ⟨o, hcs, hb⟩ := trod_wop hf hs
  refine ⟨o, ?_, hb⟩
  have hcs' : cs.toList = _ := hcs
  have : cs = (cs.toList).toArray := by simp
  rw [this, hcs']

/-- Calls that came in. -/
def WOps (W : World) (a : Option Addr) (L : List WOp) : Prop :=
  L = [] ∨ ∃ g off, a = some ⟨g, off, none⟩ ∧ ∀ (j : Nat) (o : WOp), L[j]? = some o → W.rangeAt g (off + j * 6) o.cells ∧ WOpOk W o
set_option maxRecDepth 100000 in
theorem open_wops {H : Type} {enc : TypeId × Value → H} {W : World} {a : Option Addr} {len cap : Nat} {d : DataW H} {p : List MemPlace} (h : DataW.Trod enc Try.prog W 0 (fun _ => true) true 22 (.slice a len cap) d p) (hs : SizedD 22 d) :
    ∃ L : List WOp, L.length = len ∧ WOps W a L ∧ len ≤ 140737488351232 := by
  obtain ⟨fuel, hf⟩ := h
  rcases open_slice Try.underlying22 hf with ⟨hcs, _⟩ | ⟨x, l, c, m, n, D, Pl, hcs, _, hl, _, hm, hx, hel⟩
  · simp [Value.cells] at hcs
    obtain ⟨rfl, rfl, rfl⟩ := hcs
    exact ⟨[], rfl, .inl rfl, by omega⟩
  · simp [Value.cells] at hcs
    obtain ⟨rfl, rfl, rfl⟩ := hcs
    simp only [Prod.mk.injEq] at hx
    obtain ⟨rfl, _⟩ := hx
    simp only [if_true] at hm
    subst hm
    obtain ⟨hb, hsz⟩ := hs.slice Try.underlying22
    rw [bytes49] at hb
    simp only [List.length_map, List.length_range, reachBytes] at hb
    rw [cells49] at hel
    have key : ∀ j, j < len → ∃ o : WOp, W.cells? 0 (x.add (j * 6)) 6 = some o.cells ∧ WOpOk W o := by
      intro j hj
      obtain ⟨cs', h1, h2⟩ := hel j (by omega)
      obtain ⟨o, hcs, hw⟩ := trod_wop h2 (hsz _ (List.mem_map.2 ⟨j, List.mem_range.2 hj, rfl⟩))
      subst hcs
      exact ⟨o, h1, hw⟩
    refine ⟨(List.range len).map fun j => if hj : j < len then Classical.choose (key j hj) else ⟨0, none, 0, 0, [], 0, none, 0, 0, [], 0, 0⟩, by simp, ?_, by omega⟩
    by_cases h0 : len = 0
    · left; subst h0; rfl
    · right
      obtain ⟨b, off, spot⟩ := x
      have hspot : spot = none := by
        obtain ⟨o, h1, _⟩ := key 0 (by omega)
        have h2 := cell_of_cells h1 0 (by omega)
        simpa [Addr.add] using World.cell?_spot (h2.trans (show o.cells[0]? = some (.int .i64 o.kind) from rfl))
      subst hspot
      refine ⟨b, off, rfl, fun j o ho => ?_⟩
      simp only [List.getElem?_map] at ho
      by_cases hj : j < len
      · simp only [List.getElem?_range, hj, Option.map_some, Option.some.injEq, dif_pos] at ho
        have hs := Classical.choose_spec (key j hj)
        rw [ho] at hs
        refine ⟨fun i v hv => ?_, hs.2⟩
        have hi : i < 6 := (List.getElem?_eq_some_iff.1 hv).1
        have h3 := cell_of_cells hs.1 i hi
        rw [Addr.add_mid, Addr.add_mid] at h3
        rw [h3]
        exact hv
      · rw [List.getElem?_eq_none (by simpa using hj)] at ho
        cases ho
end Go.Proofs.Ytachppnakmdjhaa
