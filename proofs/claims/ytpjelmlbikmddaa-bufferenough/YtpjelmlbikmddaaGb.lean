/- What comes in: calls of a pool, where their bulk is told. -/
import Derived.Test.YtpjelmlbikmddaaO
namespace Go.Proofs.Ytpjelmlbikmddaa
open Go.ChangeShapes Go.WideShapes Go.ChangeAt Go.RowKit Go.Deep
set_option maxRecDepth 100000
set_option linter.unusedVariables false

theorem bulk_one_le {H : Type} (d : DataW H) : 1 ≤ Rows.uptoBulk d := by
  cases d with
  | lit l => cases l <;> simp [Rows.uptoBulk]
  | nil => simp [Rows.uptoBulk]
  | ptr d => simp [Rows.uptoBulk]
  | slice elems spare => simp [Rows.uptoBulk]
  | agg parts => simp [Rows.uptoBulk]
  | iface t d => simp [Rows.uptoBulk]
  | map entries => simp [Rows.uptoBulk]
  | held h => simp [Rows.uptoBulk]

theorem bulk_part_le {H : Type} {d : DataW H} {l : List (DataW H)} (h : d ∈ l) : Rows.uptoBulk d ≤ Rows.uptoBulkAll l := by
  induction l with
  | nil => cases h
  | cons x r ih =>
    simp only [Rows.uptoBulkAll]
    cases List.mem_cons.1 h with
    | inl e => subst e; omega
    | inr e => have := ih e; omega

theorem bulk_length_le {H : Type} (l : List (DataW H)) : l.length ≤ Rows.uptoBulkAll l := by
  induction l with
  | nil => simp [Rows.uptoBulkAll]
  | cons x r ih => have := bulk_one_le x; simp only [Rows.uptoBulkAll, List.length_cons]; omega

theorem bulk_slice_le {H : Type} (elems spare : List (DataW H)) : elems.length + spare.length + 1 ≤ Rows.uptoBulk (.slice elems spare) := by
  have h1 := bulk_length_le elems
  have h2 := bulk_length_le spare
  simp only [Rows.uptoBulk]
  omega

theorem bulk_bound {H : Type} {l : List (DataW H)} (hk : Rows.uptoSmall H l = true) : Rows.uptoBulkAll l ≤ 1048576 := of_decide_eq_true hk

theorem trod_bytes_up {H : Type} {enc : TypeId × Value → H} {W : World} {fuel : Nat} {v : Value} {d : DataW H} {p : List MemPlace} (h : DataW.trod enc Try.prog W 0 (fun _ => true) true fuel 45 [v] = some (d, p)) :
    ∃ a n c l, v = .slice a n c ∧ BI W a n l ∧ n + 1 ≤ Rows.uptoBulk d ∧ n ≤ c ∧ (a = none → c = 0) := by
  rcases open_ints Try.underlying45 Try.underlying5 (by kernel_rfl) h with ⟨hcs, hd⟩ | ⟨x, l, c, zs, hcs, _, hl, hm, hz, hx, hcell, hwz⟩
  · simp only [List.cons.injEq, and_true] at hcs
    subst hcs
    exact ⟨none, 0, 0, [], rfl, ⟨rfl, .inl rfl⟩, bulk_one_le d, Nat.le_refl _, fun _ => rfl⟩
  · simp only [List.cons.injEq, and_true] at hcs
    subst hcs
    simp only [Prod.mk.injEq] at hx
    obtain ⟨rfl, rfl⟩ := hx
    have hz' : zs.length = c := by simpa using hz
    have := bulk_slice_le (H := H) (lits .u8 (zs.take l)) (lits .u8 (zs.drop l))
    refine ⟨_, _, _, _, rfl, bi_ints hl hz' hcell hwz, ?_, hl, by simp⟩
    simp only [lits, List.length_map, List.length_take, List.length_drop] at this ⊢
    omega

theorem cells48 : Try.prog.cellsOf 48 = 4 := by kernel_rfl
/-- A call that came in. -/
structure BOp where
  kind : Int
  page : Int
  a : Option Addr
  n : Nat
  c : Nat
  l : List UInt8
  mark : Int
def BOp.cells (o : BOp) : List Value := [.int .i64 o.kind, .int .i64 o.page, .slice o.a o.n o.c, .int .i64 o.mark]
structure BOpOk (W : World) (o : BOp) : Prop where
  data : BI W o.a o.n o.l
  size : o.n ≤ 1048576
  nil : o.a = none → o.c = 0
  page : -9223372036854775808 ≤ o.page ∧ o.page < 9223372036854775808
theorem BOpOk.fr {W W' : World} {o : BOp} (h : BOpOk W o) (hf : Fr W W' (fun _ => False)) : BOpOk W' o :=
  ⟨h.data.fr hf (fun _ _ _ _ h => h), h.size, h.nil, h.page⟩
theorem trod_bop {H : Type} {enc : TypeId × Value → H} {W : World} {fuel : Nat} {cs : List Value} {d : DataW H} {p : List MemPlace} (h : DataW.trod enc Try.prog W 0 (fun _ => true) true fuel 48 cs = some (d, p)) (hs : Rows.uptoBulk d ≤ 1048576) :
    (∃ o : BOp, cs = o.cells ∧ BOpOk W o) ∧ 2 ≤ Rows.uptoBulk d := by
  obtain ⟨xs, n, _, hd, hl, hxl, hf⟩ := DataW.trod_struct Try.underlying48 h
  rw [cells48] at hl
  match cs, hl with
  | [c0, c1, c2, c3], _ =>
    have hxl4 : xs.length = 4 := hxl
    match xs, hxl4 with
    | [y0, y1, y2, y3], _ =>
      have f0 : DataW.trod enc Try.prog W 0 (fun _ => true) true n 3 (([c0, c1, c2, c3].drop 0).take (Try.prog.cellsOf 3)) = [y0, y1, y2, y3][0]? := hf 0 _ rfl
      rw [cells3] at f0
      change DataW.trod enc Try.prog W 0 (fun _ => true) true n 3 [c0] = some y0 at f0
      have f1 : DataW.trod enc Try.prog W 0 (fun _ => true) true n 3 (([c0, c1, c2, c3].drop 1).take (Try.prog.cellsOf 3)) = [y0, y1, y2, y3][1]? := hf 1 _ rfl
      rw [cells3] at f1
      change DataW.trod enc Try.prog W 0 (fun _ => true) true n 3 [c1] = some y1 at f1
      have f2 : DataW.trod enc Try.prog W 0 (fun _ => true) true n 45 (([c0, c1, c2, c3].drop 2).take (Try.prog.cellsOf 45)) = [y0, y1, y2, y3][2]? := hf 2 _ rfl
      rw [cells45] at f2
      change DataW.trod enc Try.prog W 0 (fun _ => true) true n 45 [c2] = some y2 at f2
      have f3 : DataW.trod enc Try.prog W 0 (fun _ => true) true n 2 (([c0, c1, c2, c3].drop 3).take (Try.prog.cellsOf 2)) = [y0, y1, y2, y3][3]? := hf 3 _ rfl
      rw [cells2] at f3
      change DataW.trod enc Try.prog W 0 (fun _ => true) true n 2 [c3] = some y3 at f3
      have hd1 : d = .agg [y0.1, y1.1, y2.1, y3.1] := (Prod.mk.inj hd).1
      have hb2 : Rows.uptoBulk y2.1 + 2 ≤ Rows.uptoBulk d := by
        rw [hd1]
        have := bulk_one_le y0.1
        simp only [Rows.uptoBulk, Rows.uptoBulkAll]
        omega
      obtain ⟨k, e0, _⟩ := DataW.trod_int Try.underlying3 f0
      obtain ⟨pg, e1, _, w1⟩ := DataW.trod_int Try.underlying3 f1
      obtain ⟨m, e3, _, w3⟩ := DataW.trod_int Try.underlying2 f3
      obtain ⟨a', n', c', l, e2, b1, b2, b3, b4⟩ := trod_bytes_up (d := y2.1) (p := y2.2) f2
      simp only [List.cons.injEq, and_true] at e0 e1 e3
      subst e0 e1 e2 e3
      have r1 := bounds_i64 w1
      exact ⟨⟨⟨k, pg, a', n', c', l, m⟩, rfl, b1, by show n' ≤ _; omega, b4, ⟨r1.1, by show pg < _; omega⟩⟩, by omega⟩
theorem bulkAll_two {H : Type} {l : List (DataW H)} (h : ∀ d ∈ l, 2 ≤ Rows.uptoBulk d) : 2 * l.length ≤ Rows.uptoBulkAll l := by
  induction l with
  | nil => simp [Rows.uptoBulkAll]
  | cons x r ih =>
    have h1 := h x (by simp)
    have h2 := ih (fun d hd => h d (by simp [hd]))
    simp only [Rows.uptoBulkAll, List.length_cons]
    omega
/-- Calls that came in. -/
def BOps (W : World) (a : Option Addr) (L : List BOp) : Prop :=
  L = [] ∨ ∃ g off, a = some ⟨g, off, none⟩ ∧ ∀ (j : Nat) (o : BOp), L[j]? = some o → W.rangeAt g (off + j * 4) o.cells ∧ BOpOk W o
theorem open_bops_up {H : Type} {enc : TypeId × Value → H} {W : World} {a : Option Addr} {len cap : Nat} {d : DataW H} {p : List MemPlace} (h : DataW.Trod enc Try.prog W 0 (fun _ => true) true 41 (.slice a len cap) d p) (hs : Rows.uptoBulk d ≤ 1048576) :
    ∃ L : List BOp, L.length = len ∧ BOps W a L ∧ 2 * len ≤ 1048576 := by
  obtain ⟨fuel, hf⟩ := h
  rcases open_slice Try.underlying41 hf with ⟨hcs, _⟩ | ⟨x, l, c, m, n, D, Pl, hcs, _, hl, _, hm, hx, hel⟩
  · simp [Value.cells] at hcs
    obtain ⟨rfl, rfl, rfl⟩ := hcs
    exact ⟨[], rfl, .inl rfl, by omega⟩
  · simp [Value.cells] at hcs
    obtain ⟨rfl, rfl, rfl⟩ := hcs
    simp only [Prod.mk.injEq] at hx
    obtain ⟨rfl, _⟩ := hx
    simp only [if_true] at hm
    subst hm
    simp only [Rows.uptoBulk] at hs
    rw [cells48] at hel
    have hD : ∀ j, j < len → Rows.uptoBulk (D j) ≤ 1048576 := fun j hj => by
      have := bulk_part_le (H := H) (l := (List.range len).map D) (List.mem_map.2 ⟨j, List.mem_range.2 hj, rfl⟩)
      omega
    have key : ∀ j, j < len → ∃ o : BOp, W.cells? 0 (x.add (j * 4)) 4 = some o.cells ∧ BOpOk W o := by
      intro j hj
      obtain ⟨cs', h1, h2⟩ := hel j (by omega)
      obtain ⟨⟨o, hcs, hw⟩, _⟩ := trod_bop h2 (hD j hj)
      subst hcs
      exact ⟨o, h1, hw⟩
    have h2len : 2 * len ≤ 1048576 := by
      have := bulkAll_two (H := H) (l := (List.range len).map D) (fun d hd => by
        obtain ⟨j, hj, rfl⟩ := List.mem_map.1 hd
        have hj := List.mem_range.1 hj
        obtain ⟨cs', h1, h2⟩ := hel j (by omega)
        exact (trod_bop h2 (hD j hj)).2)
      simp only [List.length_map, List.length_range] at this
      omega
    refine ⟨(List.range len).map fun j => if hj : j < len then Classical.choose (key j hj) else ⟨0, 0, none, 0, 0, [], 0⟩, by simp, ?_, h2len⟩
    by_cases h0 : len = 0
    · left; subst h0; rfl
    · right
      obtain ⟨b, off, spot⟩ := x
      have hspot : spot = none := by
        obtain ⟨o, h1, _⟩ := key 0 (by omega)
        have h2 := cell_of_cells h1 0 (by omega)
        simpa [Addr.add] using World.cell?_spot (h2.trans (show o.cells[0]? = some (.int .i64 o.kind) from rfl))
      subst hspot
      refine ⟨b, off, rfl, fun j o ho => ?_⟩
      simp only [List.getElem?_map] at ho
      by_cases hj : j < len
      · simp only [List.getElem?_range, hj, Option.map_some, Option.some.injEq, dif_pos] at ho
        have hs := Classical.choose_spec (key j hj)
        rw [ho] at hs
        refine ⟨fun i v hv => ?_, hs.2⟩
        have hi : i < 4 := (List.getElem?_eq_some_iff.1 hv).1
        have h3 := cell_of_cells hs.1 i hi
        rw [Addr.add_mid, Addr.add_mid] at h3
        rw [h3]
        exact hv
      · rw [List.getElem?_eq_none (by simpa using hj)] at ho
        cases ho
end Go.Proofs.Ytpjelmlbikmddaa
