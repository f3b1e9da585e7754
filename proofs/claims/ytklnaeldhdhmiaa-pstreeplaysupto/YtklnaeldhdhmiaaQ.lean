/- What comes in: lists of periods, numbers in arrays. -/
import Derived.Test.YtklnaeldhdhmiaaO
import Derived.ProofKit
import Derived.OpenShut
import Derived.ChangeOld
import Derived.SizedLaws
import Derived.Deep.Grids
import Derived.WideKeyPair
import Derived.WideKeyArr2
namespace Go.Proofs.Ytklnaeldhdhmiaa
open Go.ChangeShapes Go.WideShapes Go.ChangeAt Go.RowKit Go.Deep
set_option maxRecDepth 100000
set_option linter.unusedVariables false

theorem own : ownKnob Try.prog.godebug = none := by kernel_rfl
theorem laidOut : laidOutB Try.prog = true := by kernel_rfl
theorem cells2 : Try.prog.cellsOf 2 = 1 := by kernel_rfl
theorem cells42 : Try.prog.cellsOf 42 = 2 := by kernel_rfl
theorem cell_of_cells {W : World} {a : Addr} {n : Nat} {cs : List Value} (h : W.cells? 0 a n = some cs) (i : Nat) (hi : i < n) : W.cell? (a.add i) = cs[i]? := (World.cells?_some h).2.2 i hi

theorem bulk_one_le {H : Type} (d : DataW H) : 1 ≤ Rows.uptoBulk d := by
  cases d with
  | lit l => cases l <;> simp [Rows.uptoBulk]
  | nil => simp [Rows.uptoBulk]
  | ptr d => simp [Rows.uptoBulk]
  | slice elems spare => simp [Rows.uptoBulk]
  | agg parts => simp [Rows.uptoBulk]
  | iface t d => simp [Rows.uptoBulk]
  | map entries => simp [Rows.uptoBulk]
  | held h => simp [Rows.uptoBulk]
theorem bulk_part_le {H : Type} {d : DataW H} {l : List (DataW H)} (h : d ∈ l) : Rows.uptoBulk d ≤ Rows.uptoBulkAll l := by
  induction l with
  | nil => cases h
  | cons x r ih =>
    simp only [Rows.uptoBulkAll]
    cases List.mem_cons.1 h with
    | inl e => subst e; omega
    | inr e => have := ih e; omega
theorem bulk_length_le {H : Type} (l : List (DataW H)) : l.length ≤ Rows.uptoBulkAll l := by
  induction l with
  | nil => simp [Rows.uptoBulkAll]
  | cons x r ih => have := bulk_one_le x; simp only [Rows.uptoBulkAll, List.length_cons]; omega
theorem bulk_bound {H : Type} {l : List (DataW H)} (hk : Rows.uptoSmall H l = true) : Rows.uptoBulkAll l ≤ 1048576 := of_decide_eq_true hk

/-- A slice read element by element: what each is, at its place. -/
theorem open_row {H α : Type} {enc : TypeId × Value → H} {W : World} {t e : TypeId} {size : Nat} {fuel : Nat} {v : Value} {d : DataW H} {p : List MemPlace} (ht : Try.prog.underlying t = some (.slice e)) (hc : Try.prog.cellsOf e = size) (hsz : 0 < size) (cells : α → List Value) (hcl : ∀ x, (cells x).length = size) (Ok : α → Nat → Prop)
    (hel : ∀ n cs D Pl, DataW.trod enc Try.prog W 0 (fun _ => true) true n e cs = some (D, Pl) → ∃ x, cs = cells x ∧ Ok x (Rows.uptoBulk D))
    (h : DataW.trod enc Try.prog W 0 (fun _ => true) true fuel t [v] = some (d, p)) :
    ∃ (a : Option Addr) (n c : Nat) (L : List α) (B : List Nat), v = .slice a n c ∧ L.length = n ∧ B.length = n ∧ n ≤ c ∧ (a = none → c = 0) ∧ B.sum + 1 ≤ Rows.uptoBulk d ∧ (∀ (i : Nat) (x : α) (b : Nat), L[i]? = some x → B[i]? = some b → Ok x b) ∧
      (∀ (i : Nat) (x : α), L[i]? = some x → ∃ g off, a = some ⟨g, off, none⟩ ∧ W.rangeAt g (off + i * size) (cells x)) := by
  rcases open_slice ht h with ⟨hcs, hd⟩ | ⟨x, l, c, m, n, D, Pl, hcs, _, hl, _, hm, hx, hels⟩
  · simp only [List.cons.injEq, and_true] at hcs
    subst hcs
    exact ⟨none, 0, 0, [], [], rfl, rfl, rfl, Nat.le_refl _, fun _ => rfl, by simpa using bulk_one_le d, fun i x b h => by simp at h, fun i x h => by simp at h⟩
  · simp only [List.cons.injEq, and_true] at hcs
    subst hcs
    simp only [Prod.mk.injEq] at hx
    obtain ⟨rfl, _⟩ := hx
    simp only [if_true] at hm
    subst hm
    rw [hc] at hels
    have key : ∀ j, j < l → ∃ y : α, W.cells? 0 (x.add (j * size)) size = some (cells y) ∧ Ok y (Rows.uptoBulk (D j)) := by
      intro j hj
      obtain ⟨cs', h1, h2⟩ := hels j (by omega)
      obtain ⟨y, rfl, hy⟩ := hel _ _ _ _ h2
      exact ⟨y, h1, hy⟩
    have hbl : ∀ (q : Nat), ((List.range q).map fun j => Rows.uptoBulk (D j)).sum = Rows.uptoBulkAll ((List.range q).map D) := by
      intro q
      induction (List.range q) with
      | nil => simp [Rows.uptoBulkAll]
      | cons a r ih => simp only [List.map_cons, List.sum_cons, Rows.uptoBulkAll, ih]
    by_cases h0 : l = 0
    · subst h0
      exact ⟨some x, 0, m, [], [], rfl, rfl, rfl, hl, (fun h => by cases h), by simpa using bulk_one_le _, fun i x b h => by simp at h, fun i x h => by simp at h⟩
    · obtain ⟨b, off, spot⟩ := x
      have hspot : spot = none := by
        obtain ⟨y, h1, _⟩ := key 0 (by omega)
        have h2 := cell_of_cells h1 0 hsz
        obtain ⟨u, hu⟩ : ∃ u, (cells y)[0]? = some u := ⟨_, List.getElem?_eq_getElem (by rw [hcl]; exact hsz)⟩
        simpa [Addr.add] using World.cell?_spot (h2.trans hu)
      subst hspot
      have ne : Nonempty α := by obtain ⟨y, _⟩ := key 0 (by omega); exact ⟨y⟩
      refine ⟨some ⟨b, off, none⟩, l, m, (List.range l).map fun j => if hj : j < l then Classical.choose (key j hj) else Classical.choice ne, (List.range l).map fun j => Rows.uptoBulk (D j), rfl, by simp, by simp, hl, (fun h => by cases h), ?_, ?_, ?_⟩
      · rw [hbl]; simp only [Rows.uptoBulk]; omega
      · intro i y q hy hq
        simp only [List.getElem?_map] at hy hq
        by_cases hj : i < l
        · simp only [List.getElem?_range, hj, Option.map_some, Option.some.injEq, dif_pos] at hy hq
          have hs := Classical.choose_spec (key i hj)
          rw [hy, hq] at hs
          exact hs.2
        · rw [List.getElem?_eq_none (by simpa using hj)] at hy
          cases hy
      · intro i y hy
        simp only [List.getElem?_map] at hy
        by_cases hj : i < l
        · simp only [List.getElem?_range, hj, Option.map_some, Option.some.injEq, dif_pos] at hy
          have hs := Classical.choose_spec (key i hj)
          rw [hy] at hs
          refine ⟨b, off, rfl, fun q u hu => ?_⟩
          have hq : q < size := by have := (List.getElem?_eq_some_iff.1 hu).1; rw [hcl] at this; exact this
          have h3 := cell_of_cells hs.1 q hq
          rw [Addr.add_mid, Addr.add_mid] at h3
          rw [h3]
          exact hu
        · rw [List.getElem?_eq_none (by simpa using hj)] at hy
          cases hy

theorem trod_per {H : Type} {enc : TypeId × Value → H} {W : World} (fuel : Nat) (cs : List Value) (d : DataW H) (p : List MemPlace) (h : DataW.trod enc Try.prog W 0 (fun _ => true) true fuel 42 cs = some (d, p)) : ∃ x : Int × Int, cs = [.int .i64 x.1, .int .i64 x.2] ∧ (In64 x.1 ∧ In64 x.2 ∧ 1 ≤ Rows.uptoBulk d) := by
  obtain ⟨xs, n, _, hd, hl, hxl, hf⟩ := DataW.trod_struct Try.underlying42 h
  rw [cells42] at hl
  match cs, hl with
  | [c0, c1], _ =>
    have hxl2 : xs.length = 2 := hxl
    match xs, hxl2 with
    | [y0, y1], _ =>
      have f0 : DataW.trod enc Try.prog W 0 (fun _ => true) true n 2 (([c0, c1].drop 0).take (Try.prog.cellsOf 2)) = [y0, y1][0]? := hf 0 _ rfl
      rw [cells2] at f0
      change DataW.trod enc Try.prog W 0 (fun _ => true) true n 2 [c0] = some y0 at f0
      have f1 : DataW.trod enc Try.prog W 0 (fun _ => true) true n 2 (([c0, c1].drop 1).take (Try.prog.cellsOf 2)) = [y0, y1][1]? := hf 1 _ rfl
      rw [cells2] at f1
      change DataW.trod enc Try.prog W 0 (fun _ => true) true n 2 [c1] = some y1 at f1
      obtain ⟨k, e0, _, w0⟩ := DataW.trod_int Try.underlying2 f0
      obtain ⟨q, e1, _, w1⟩ := DataW.trod_int Try.underlying2 f1
      simp only [List.cons.injEq, and_true] at e0 e1
      subst e0 e1
      exact ⟨(k, q), rfl, in64_of w0, in64_of w1, bulk_one_le d⟩
theorem open_pers {H : Type} {enc : TypeId × Value → H} {W : World} {v : Value} {d : DataW H} {p : List MemPlace} (h : ∃ fuel, DataW.trod enc Try.prog W 0 (fun _ => true) true fuel 38 [v] = some (d, p)) (hs : Rows.uptoBulk d ≤ 1048576) :
    ∃ (a : Option Addr) (n c : Nat) (L : List (Int × Int)), v = .slice a n c ∧ L.length = n ∧ PersIn W a L ∧ n ≤ 1048576 ∧ (∀ x ∈ L, In64 x.1 ∧ In64 x.2) := by
  obtain ⟨fuel, hf⟩ := h
  obtain ⟨a, n, c, L, B, hv, hL, hB, _, _, hS, hOk, hR⟩ := open_row (d := d) (p := p) Try.underlying38 cells42 (by omega) (fun x : Int × Int => [.int .i64 x.1, .int .i64 x.2]) (fun _ => rfl) (fun x b => In64 x.1 ∧ In64 x.2 ∧ 1 ≤ b) (fun n cs D Pl h => trod_per n cs D Pl h) hf
  have hsum : ∀ (B : List Nat), (∀ b ∈ B, 1 ≤ b) → B.length ≤ B.sum := by
    intro B
    induction B with
    | nil => intro _; simp
    | cons b B ih => intro hb; have h1 := ih (fun x hx => hb x (by simp [hx])); have h2 := hb b (by simp); simp only [List.length_cons, List.sum_cons]; omega
  have hb1 : ∀ b ∈ B, 1 ≤ b := fun b hb => by
    obtain ⟨i, hi⟩ := List.getElem?_of_mem hb
    obtain ⟨x, hx⟩ : ∃ x, L[i]? = some x := ⟨_, List.getElem?_eq_getElem (by have := (List.getElem?_eq_some_iff.1 hi).1; omega)⟩
    exact (hOk i x b hx hi).2.2
  have hq := hsum B hb1
  refine ⟨a, n, c, L, hv, hL, ?_, by omega, fun x hx => ?_⟩
  · intro i x hx
    obtain ⟨g, off, ha, hr⟩ := hR i x hx
    have c0 : W.cell? ⟨g, off + i * 2, none⟩ = some (.int .i64 x.1) := by have := hr 0 _ rfl; simpa using this
    exact ⟨g, off, ha, World.block_lt_of_cell? W _ c0, c0, hr 1 _ rfl⟩
  · obtain ⟨i, hi⟩ := List.getElem?_of_mem hx
    obtain ⟨b, hb⟩ : ∃ b, B[i]? = some b := ⟨_, List.getElem?_eq_getElem (by have := (List.getElem?_eq_some_iff.1 hi).1; omega)⟩
    exact ⟨(hOk i x b hi hb).1, (hOk i x b hi hb).2.1⟩
theorem open_arr2 {H : Type} {enc : TypeId × Value → H} {W : World} {base : Nat} {v : Value} {d : DataW H} {p : List MemPlace} (hok : Value.okWide Try.prog W .any base 50 v) (h : DataW.Trod enc Try.prog W 0 (fun _ => true) true 50 v d p) :
    ∃ x y, v = .agg #[.int .i64 x, .int .i64 y] ∧ In64 x ∧ In64 y := by
  obtain ⟨c0, c1, rfl⟩ := Go.WideMaps.okWide_pair (e := 2) ⟨Try.underlying50, by kernel_rfl, by kernel_rfl, by kernel_rfl⟩ hok
  obtain ⟨fuel, hf⟩ := h
  obtain ⟨xs, n, _, _, _, hxl, hel⟩ := DataW.trod_array Try.underlying50 hf
  match xs, hxl with
  | [y0, y1], _ =>
    have f0 := hel 0 (by omega)
    have f1 := hel 1 (by omega)
    rw [cells2] at f0 f1
    change DataW.trod enc Try.prog W 0 (fun _ => true) true n 2 [c0] = some y0 at f0
    change DataW.trod enc Try.prog W 0 (fun _ => true) true n 2 [c1] = some y1 at f1
    obtain ⟨x, e0, _, w0⟩ := DataW.trod_int Try.underlying2 f0
    obtain ⟨y, e1, _, w1⟩ := DataW.trod_int Try.underlying2 f1
    simp only [List.cons.injEq, and_true] at e0 e1
    subst e0 e1
    exact ⟨x, y, rfl, in64_of w0, in64_of w1⟩
theorem open_arr3 {H : Type} {enc : TypeId × Value → H} {W : World} {base : Nat} {v : Value} {d : DataW H} {p : List MemPlace} (hok : Value.okWide Try.prog W .any base 49 v) (h : DataW.Trod enc Try.prog W 0 (fun _ => true) true 49 v d p) :
    ∃ x y z, v = .agg #[.int .i64 x, .int .i64 y, .int .i64 z] ∧ In64 x ∧ In64 y ∧ In64 z := by
  obtain ⟨xa, rfl, hxa⟩ := Go.WideMaps.okWide_arr (e := 2) (n := 3) ⟨Try.underlying49, by kernel_rfl, by kernel_rfl, by kernel_rfl⟩ hok
  obtain ⟨l⟩ := xa
  have hl3 : l.length = 3 := hxa
  match l, hl3 with
  | [c0, c1, c2], _ =>
    obtain ⟨fuel, hf⟩ := h
    obtain ⟨xs, n, _, _, _, hxl, hel⟩ := DataW.trod_array Try.underlying49 hf
    match xs, hxl with
    | [y0, y1, y2], _ =>
      have f0 := hel 0 (by omega)
      have f1 := hel 1 (by omega)
      have f2 := hel 2 (by omega)
      rw [cells2] at f0 f1 f2
      change DataW.trod enc Try.prog W 0 (fun _ => true) true n 2 [c0] = some y0 at f0
      change DataW.trod enc Try.prog W 0 (fun _ => true) true n 2 [c1] = some y1 at f1
      change DataW.trod enc Try.prog W 0 (fun _ => true) true n 2 [c2] = some y2 at f2
      obtain ⟨x, e0, _, w0⟩ := DataW.trod_int Try.underlying2 f0
      obtain ⟨y, e1, _, w1⟩ := DataW.trod_int Try.underlying2 f1
      obtain ⟨z, e2, _, w2⟩ := DataW.trod_int Try.underlying2 f2
      simp only [List.cons.injEq, and_true] at e0 e1 e2
      subst e0 e1 e2
      exact ⟨x, y, z, rfl, in64_of w0, in64_of w1, in64_of w2⟩
end Go.Proofs.Ytklnaeldhdhmiaa
