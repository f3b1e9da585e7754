/- What comes in: calls, of bounded bulk. -/
import Derived.Test.YtdeopneififnnaaOp
import Derived.Test.YtdeopneififnnaaWe
namespace Go.Proofs.Ytdeopneififnnaa
open Go.ChangeShapes Go.WideShapes Go.ChangeAt Go.RowKit Go.Deep
set_option maxRecDepth 100000
set_option linter.unusedVariables false

theorem cells32 : Try.prog.cellsOf 32 = 6 := by kernel_rfl
theorem sh_slice {H : Type} {enc : TypeId × Value → H} {W : World} {t e : TypeId} {size fuel : Nat} {a : Option Addr} {n c : Nat} {d : DataW H} {p : List MemPlace} (ht : Try.prog.underlying t = some (.slice e)) (hc : Try.prog.cellsOf e = size) (hsz : 0 < size)
    (h : DataW.trod enc Try.prog W 0 (fun _ => true) true fuel t [.slice a n c] = some (d, p)) : Sh (fun _ => True) W a n c := by
  rcases open_slice ht h with ⟨hcs, _⟩ | ⟨x, l, c', m, n', D, Pl, hcs, _, hl, _, hm, _, hels⟩
  · simp only [List.cons.injEq, Value.slice.injEq, and_true] at hcs
    exact .inl ⟨hcs.2.1, hcs.2.2⟩
  · simp only [List.cons.injEq, Value.slice.injEq, and_true] at hcs
    obtain ⟨rfl, rfl, rfl⟩ := hcs
    simp only [if_true] at hm
    subst hm
    by_cases h0 : m = 0
    · exact .inl ⟨by omega, h0⟩
    · obtain ⟨cs', h1, _⟩ := hels 0 (by omega)
      rw [hc] at h1
      obtain ⟨_, hlen, hcell⟩ := World.cells?_some h1
      have h2 := hcell 0 hsz
      obtain ⟨u, hu⟩ : ∃ u, cs'[0]? = some u := ⟨_, List.getElem?_eq_getElem (by rw [hlen]; exact hsz)⟩
      rw [hu] at h2
      obtain ⟨b, off, spot⟩ := x
      have hspot : spot = none := by simpa [Addr.add] using World.cell?_spot h2
      subst hspot
      have hlt := World.block_lt_of_cell? W _ h2
      exact .inr ⟨b, off, rfl, trivial, by simpa [Addr.add] using hlt⟩
theorem trod_tab {H : Type} {enc : TypeId × Value → H} {W : World} {c0 c1 c2 c3 c4 : Value} {fuel : Nat} {d : DataW H} {p : List MemPlace} (hf : DataW.trod enc Try.prog W 0 (fun _ => true) true fuel 30 [c0, c1, c2, c3, c4] = some (d, p)) : ∃ t : Tb, [c0, c1, c2, c3, c4] = [.int .i64 t.id, .string t.name, .slice t.ca t.cn t.cc, .slice t.ka t.kn t.kc, .bool t.ix] ∧ (Rows.uptoBulk d ≤ 1048576 → TabIn (fun _ => True) W t) := by
  obtain ⟨xs, n, _, hd, hl, hxl, hg⟩ := DataW.trod_struct Try.underlying30 hf
  have hxl5 : xs.length = 5 := hxl
  match xs, hxl5 with
  | [y0, y1, y2, y3, y4], _ =>
    have f0 : DataW.trod enc Try.prog W 0 (fun _ => true) true n 3 (([c0, c1, c2, c3, c4].drop 0).take (Try.prog.cellsOf 3)) = [y0, y1, y2, y3, y4][0]? := hg 0 _ rfl
    rw [cells3] at f0
    change DataW.trod enc Try.prog W 0 (fun _ => true) true n 3 [c0] = some y0 at f0
    have f1 : DataW.trod enc Try.prog W 0 (fun _ => true) true n 9 (([c0, c1, c2, c3, c4].drop 1).take (Try.prog.cellsOf 9)) = [y0, y1, y2, y3, y4][1]? := hg 1 _ rfl
    rw [cells9] at f1
    change DataW.trod enc Try.prog W 0 (fun _ => true) true n 9 [c1] = some y1 at f1
    have f2 : DataW.trod enc Try.prog W 0 (fun _ => true) true n 27 (([c0, c1, c2, c3, c4].drop 2).take (Try.prog.cellsOf 27)) = [y0, y1, y2, y3, y4][2]? := hg 2 _ rfl
    rw [cells27] at f2
    change DataW.trod enc Try.prog W 0 (fun _ => true) true n 27 [c2] = some y2 at f2
    have f3 : DataW.trod enc Try.prog W 0 (fun _ => true) true n 28 (([c0, c1, c2, c3, c4].drop 3).take (Try.prog.cellsOf 28)) = [y0, y1, y2, y3, y4][3]? := hg 3 _ rfl
    rw [cells28] at f3
    change DataW.trod enc Try.prog W 0 (fun _ => true) true n 28 [c3] = some y3 at f3
    have f4 : DataW.trod enc Try.prog W 0 (fun _ => true) true n 4 (([c0, c1, c2, c3, c4].drop 4).take (Try.prog.cellsOf 4)) = [y0, y1, y2, y3, y4][4]? := hg 4 _ rfl
    rw [cells4] at f4
    change DataW.trod enc Try.prog W 0 (fun _ => true) true n 4 [c4] = some y4 at f4
    have hd1 : d = .agg [y0.1, y1.1, y2.1, y3.1, y4.1] := (Prod.mk.inj hd).1
    obtain ⟨k, e0, hk64⟩ := DataW.trod_int Try.underlying3 f0
    obtain ⟨s, e1, _⟩ := DataW.trod_string Try.underlying9 f1
    obtain ⟨b, e4, _⟩ := DataW.trod_bool Try.underlying4 f4
    obtain ⟨ca, cn, cc, L, B, e2, hL, hB, _, _, hS, _, hR⟩ := open_row (d := y2.1) (p := y2.2) Try.underlying27 cells37 (by omega) (fun x : ByteArray × Int => [.string x.1, .int .i64 x.2]) (fun _ => rfl) (fun _ _ => True) (fun n cs D Pl h => trod_col n cs D Pl h) f2
    obtain ⟨ka, kn, kc, K, B2, e3, hK, hB2, _, _, hS2, _, hR2⟩ := open_row (d := y3.1) (p := y3.2) Try.underlying28 cells9 (by omega) (fun x : ByteArray => [.string x]) (fun _ => rfl) (fun _ _ => True) (fun n cs D Pl h => trod_str n cs D Pl h) f3
    simp only [List.cons.injEq, and_true] at e0 e1 e4
    subst e0 e1 e2 e3 e4
    refine ⟨⟨k, s, ca, cn, cc, L.map (fun x => ⟨x.1, x.2⟩), ka, kn, kc, K, b⟩, rfl, fun hs => ?_⟩
    have hb2 : Rows.uptoBulk y2.1 ≤ 1048576 := by
      rw [hd1] at hs
      simp only [Rows.uptoBulk, Rows.uptoBulkAll] at hs
      omega
    have hb3 : Rows.uptoBulk y3.1 ≤ 1048576 := by
      rw [hd1] at hs
      simp only [Rows.uptoBulk, Rows.uptoBulkAll] at hs
      omega
    have hn2 : cn ≤ Rows.uptoBulk y2.1 := by
      rcases open_slice Try.underlying27 f2 with ⟨hcs, _⟩ | ⟨x, l, c, m, n', D, Pl, hcs, _, hl, _, hm, hx, _⟩
      · simp only [List.cons.injEq, Value.slice.injEq, and_true] at hcs
        omega
      · simp only [List.cons.injEq, Value.slice.injEq, and_true] at hcs
        obtain ⟨_, rfl, _⟩ := hcs
        have hx1 := (Prod.mk.inj hx).1
        rw [hx1]
        have := bulk_length_le ((List.range cn).map D)
        simp only [Rows.uptoBulk, List.length_map, List.length_range] at this ⊢
        omega
    have hn3 : kn ≤ Rows.uptoBulk y3.1 := by
      rcases open_slice Try.underlying28 f3 with ⟨hcs, _⟩ | ⟨x, l, c, m, n', D, Pl, hcs, _, hl, _, hm, hx, _⟩
      · simp only [List.cons.injEq, Value.slice.injEq, and_true] at hcs
        omega
      · simp only [List.cons.injEq, Value.slice.injEq, and_true] at hcs
        obtain ⟨_, rfl, _⟩ := hcs
        have hx1 := (Prod.mk.inj hx).1
        rw [hx1]
        have := bulk_length_le ((List.range kn).map D)
        simp only [Rows.uptoBulk, List.length_map, List.length_range] at this ⊢
        omega
    refine ⟨?_, by rw [List.length_map]; exact hL, by dsimp only; omega, sh_slice (d := y2.1) (p := y2.2) Try.underlying27 cells37 (by omega) f2, ?_, hK, by dsimp only; omega, sh_slice (d := y3.1) (p := y3.2) Try.underlying28 cells9 (by omega) f3, ?_⟩
    · intro i x hx
      rw [List.getElem?_map] at hx
      obtain ⟨z, hz, rfl⟩ := Option.map_eq_some_iff.1 hx
      obtain ⟨g, off, ha, hr⟩ := hR i z hz
      exact ⟨g, off, ha, trivial, by have := hr 0 _ rfl; simpa using this, hr 1 _ rfl⟩
    · intro i x hx
      obtain ⟨g, off, ha, hr⟩ := hR2 i x hx
      exact ⟨g, off, ha, trivial, by have := hr 0 _ rfl; simpa using this⟩
    · exact in64_of hk64.2
def opC (o : Int × Tb) : List Value := [.int .i64 o.1, .int .i64 o.2.id, .string o.2.name, .slice o.2.ca o.2.cn o.2.cc, .slice o.2.ka o.2.kn o.2.kc, .bool o.2.ix]
theorem trod_op {H : Type} {enc : TypeId × Value → H} {W : World} (fuel : Nat) (cs : List Value) (d : DataW H) (p : List MemPlace) (h : DataW.trod enc Try.prog W 0 (fun _ => true) true fuel 32 cs = some (d, p)) : ∃ o : Int × Tb, cs = opC o ∧ (Rows.uptoBulk d ≤ 1048576 → TabIn (fun _ => True) W o.2) := by
  obtain ⟨xs, n, _, hd, hl, hxl, hf⟩ := DataW.trod_struct Try.underlying32 h
  rw [cells32] at hl
  match cs, hl with
  | [c0, c1, c2, c3, c4, c5], _ =>
    have hxl2 : xs.length = 2 := hxl
    match xs, hxl2 with
    | [y0, y1], _ =>
      have f0 : DataW.trod enc Try.prog W 0 (fun _ => true) true n 3 (([c0, c1, c2, c3, c4, c5].drop 0).take (Try.prog.cellsOf 3)) = [y0, y1][0]? := hf 0 _ rfl
      rw [cells3] at f0
      change DataW.trod enc Try.prog W 0 (fun _ => true) true n 3 [c0] = some y0 at f0
      have f1 : DataW.trod enc Try.prog W 0 (fun _ => true) true n 30 (([c0, c1, c2, c3, c4, c5].drop 1).take (Try.prog.cellsOf 30)) = [y0, y1][1]? := hf 1 _ rfl
      rw [cells30] at f1
      change DataW.trod enc Try.prog W 0 (fun _ => true) true n 30 [c1, c2, c3, c4, c5] = some y1 at f1
      obtain ⟨k, e0, _⟩ := DataW.trod_int Try.underlying3 f0
      obtain ⟨t, e1, ht⟩ := trod_tab (d := y1.1) (p := y1.2) f1
      simp only [List.cons.injEq, and_true] at e0
      subst e0
      have hd1 : d = .agg [y0.1, y1.1] := (Prod.mk.inj hd).1
      refine ⟨(k, t), by unfold opC; rw [e1], fun hs => ht ?_⟩
      rw [hd1] at hs
      simp only [Rows.uptoBulk, Rows.uptoBulkAll] at hs
      omega
theorem sum_part {B : List Nat} {i b : Nat} (h : B[i]? = some b) : b ≤ B.sum := by
  induction B generalizing i with
  | nil => simp at h
  | cons x r ih =>
    cases i with
    | zero => simp at h; subst h; simp only [List.sum_cons]; omega
    | succ i => have := ih (i := i) (by simpa using h); simp only [List.sum_cons]; omega
theorem open_ops {H : Type} {enc : TypeId × Value → H} {W : World} {v : Value} {d : DataW H} {p : List MemPlace} (h : ∃ fuel, DataW.trod enc Try.prog W 0 (fun _ => true) true fuel 22 [v] = some (d, p)) (hs : Rows.uptoBulk d ≤ 1048576) : ∃ (a : Option Addr) (n c : Nat) (O : List (Int × Tb)), v = .slice a n c ∧ OpsIn W a O ∧ O.length = n ∧ n ≤ 1048576 := by
  obtain ⟨fuel, hf⟩ := h
  obtain ⟨a, n, c, O, B, rfl, hO, hB, _, _, hS, hOk, hR⟩ := open_row (d := d) (p := p) Try.underlying22 cells32 (by omega) opC (fun _ => rfl) (fun o b => b ≤ 1048576 → TabIn (fun _ => True) W o.2) (fun n cs D Pl h => trod_op n cs D Pl h) hf
  have hn : n ≤ Rows.uptoBulk d := by
    rcases open_slice Try.underlying22 hf with ⟨hcs, _⟩ | ⟨x, l, c, m, n', D, Pl, hcs, _, hl, _, hm, hx, _⟩
    · simp only [List.cons.injEq, Value.slice.injEq, and_true] at hcs
      omega
    · simp only [List.cons.injEq, Value.slice.injEq, and_true] at hcs
      obtain ⟨_, rfl, _⟩ := hcs
      have hx1 := (Prod.mk.inj hx).1
      rw [hx1]
      have := bulk_length_le ((List.range n).map D)
      simp only [Rows.uptoBulk, List.length_map, List.length_range] at this ⊢
      omega
  refine ⟨a, n, c, O, rfl, fun i o hi => ?_, hO, by omega⟩
  obtain ⟨g, off, ha, hr⟩ := hR i o hi
  obtain ⟨b, hb⟩ : ∃ b, B[i]? = some b := ⟨_, List.getElem?_eq_getElem (by rw [hB, ← hO]; exact (List.getElem?_eq_some_iff.1 hi).1)⟩
  exact ⟨g, off, ha, hr, hOk i o b hi hb (by have := sum_part hb; omega)⟩
end Go.Proofs.Ytdeopneififnnaa
