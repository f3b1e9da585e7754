/- What comes in: periods, calls. -/
import Derived.Test.YtigkinakhijfoaaGreatGb
import Derived.Test.YtigkinakhijfoaaGreatGa
import Derived.ProofKit
import Derived.OpenShut
import Derived.ChangeOld
import Derived.SizedLaws
import Derived.Deep.Grids
namespace Go.Proofs.YtigkinakhijfoaaGreat
open Go.ChangeShapes Go.WideShapes Go.ChangeAt Go.RowKit Go.Deep
set_option maxRecDepth 100000
set_option linter.unusedVariables false

theorem own : ownKnob Tryz.prog.godebug = none := by kernel_rfl
theorem laidOut : laidOutB Tryz.prog = true := by kernel_rfl
theorem cell_of_cells {W : World} {a : Addr} {n : Nat} {cs : List Value} (h : W.cells? 0 a n = some cs) (i : Nat) (hi : i < n) : W.cell? (a.add i) = cs[i]? := (World.cells?_some h).2.2 i hi
theorem bulk_one_le {H : Type} (d : DataW H) : 1 ≤ Rows.uptoBulk d := by
  cases d with
  | lit l => cases l <;> simp [Rows.uptoBulk]
  | nil => simp [Rows.uptoBulk]
  | ptr d => simp [Rows.uptoBulk]
  | slice elems spare => simp [Rows.uptoBulk]
  | agg parts => simp [Rows.uptoBulk]
  | iface t d => simp [Rows.uptoBulk]
  | map entries => simp [Rows.uptoBulk]
  | held h => simp [Rows.uptoBulk]
theorem bulk_part_le {H : Type} {d : DataW H} {l : List (DataW H)} (h : d ∈ l) : Rows.uptoBulk d ≤ Rows.uptoBulkAll l := by
  induction l with
  | nil => cases h
  | cons x r ih =>
    simp only [Rows.uptoBulkAll]
    cases List.mem_cons.1 h with
    | inl e => subst e; omega
    | inr e => have := ih e; omega
theorem bulk_bound {H : Type} {l : List (DataW H)} (hk : Rows.uptoSmall H l = true) : Rows.uptoBulkAll l ≤ 1048576 := of_decide_eq_true hk

theorem cells2 : Tryz.prog.cellsOf 2 = 1 := by kernel_rfl
theorem cells24 : Tryz.prog.cellsOf 24 = 2 := by kernel_rfl
/-- A slice read element by element: what each is, at its place. -/
theorem open_row {H α : Type} {enc : TypeId × Value → H} {W : World} {t e : TypeId} {size : Nat} {fuel : Nat} {v : Value} {d : DataW H} {p : List MemPlace} (ht : Tryz.prog.underlying t = some (.slice e)) (hc : Tryz.prog.cellsOf e = size) (hsz : 0 < size) (cells : α → List Value) (hcl : ∀ x, (cells x).length = size) (Ok : α → Nat → Prop)
    (hel : ∀ n cs D Pl, DataW.trod enc Tryz.prog W 0 (fun _ => true) true n e cs = some (D, Pl) → ∃ x, cs = cells x ∧ Ok x (Rows.uptoBulk D))
    (h : DataW.trod enc Tryz.prog W 0 (fun _ => true) true fuel t [v] = some (d, p)) :
    ∃ (a : Option Addr) (n c : Nat) (L : List α) (B : List Nat), v = .slice a n c ∧ L.length = n ∧ B.length = n ∧ n ≤ c ∧ (a = none → c = 0) ∧ B.sum + 1 ≤ Rows.uptoBulk d ∧ (∀ (i : Nat) (x : α) (b : Nat), L[i]? = some x → B[i]? = some b → Ok x b) ∧
      (∀ (i : Nat) (x : α), L[i]? = some x → ∃ g off, a = some ⟨g, off, none⟩ ∧ W.rangeAt g (off + i * size) (cells x)) := by
  rcases open_slice ht h with ⟨hcs, hd⟩ | ⟨x, l, c, m, n, D, Pl, hcs, _, hl, _, hm, hx, hels⟩
  · simp only [List.cons.injEq, and_true] at hcs
    subst hcs
    exact ⟨none, 0, 0, [], [], rfl, rfl, rfl, Nat.le_refl _, fun _ => rfl, by simpa using bulk_one_le d, fun i x b h => by simp at h, fun i x h => by simp at h⟩
  · simp only [List.cons.injEq, and_true] at hcs
    subst hcs
    simp only [Prod.mk.injEq] at hx
    obtain ⟨rfl, _⟩ := hx
    simp only [if_true] at hm
    subst hm
    rw [hc] at hels
    have key : ∀ j, j < l → ∃ y : α, W.cells? 0 (x.add (j * size)) size = some (cells y) ∧ Ok y (Rows.uptoBulk (D j)) := by
      intro j hj
      obtain ⟨cs', h1, h2⟩ := hels j (by omega)
      obtain ⟨y, rfl, hy⟩ := hel _ _ _ _ h2
      exact ⟨y, h1, hy⟩
    have hbl : ∀ (q : Nat), ((List.range q).map fun j => Rows.uptoBulk (D j)).sum = Rows.uptoBulkAll ((List.range q).map D) := by
      intro q
      induction (List.range q) with
      | nil => simp [Rows.uptoBulkAll]
      | cons a r ih => simp only [List.map_cons, List.sum_cons, Rows.uptoBulkAll, ih]
    by_cases h0 : l = 0
    · subst h0
      exact ⟨some x, 0, m, [], [], rfl, rfl, rfl, hl, (fun h => by cases h), by simpa using bulk_one_le _, fun i x b h => by simp at h, fun i x h => by simp at h⟩
    · obtain ⟨b, off, spot⟩ := x
      have hspot : spot = none := by
        obtain ⟨y, h1, _⟩ := key 0 (by omega)
        have h2 := cell_of_cells h1 0 hsz
        obtain ⟨u, hu⟩ : ∃ u, (cells y)[0]? = some u := ⟨_, List.getElem?_eq_getElem (by rw [hcl]; exact hsz)⟩
        simpa [Addr.add] using World.cell?_spot (h2.trans hu)
      subst hspot
      have ne : Nonempty α := by obtain ⟨y, _⟩ := key 0 (by omega); exact ⟨y⟩
      refine ⟨some ⟨b, off, none⟩, l, m, (List.range l).map fun j => if hj : j < l then Classical.choose (key j hj) else Classical.choice ne, (List.range l).map fun j => Rows.uptoBulk (D j), rfl, by simp, by simp, hl, (fun h => by cases h), ?_, ?_, ?_⟩
      · rw [hbl]; simp only [Rows.uptoBulk]; omega
      · intro i y q hy hq
        simp only [List.getElem?_map] at hy hq
        by_cases hj : i < l
        · simp only [List.getElem?_range, hj, Option.map_some, Option.some.injEq, dif_pos] at hy hq
          have hs := Classical.choose_spec (key i hj)
          rw [hy, hq] at hs
          exact hs.2
        · rw [List.getElem?_eq_none (by simpa using hj)] at hy
          cases hy
      · intro i y hy
        simp only [List.getElem?_map] at hy
        by_cases hj : i < l
        · simp only [List.getElem?_range, hj, Option.map_some, Option.some.injEq, dif_pos] at hy
          have hs := Classical.choose_spec (key i hj)
          rw [hy] at hs
          refine ⟨b, off, rfl, fun q u hu => ?_⟩
          have hq : q < size := by have := (List.getElem?_eq_some_iff.1 hu).1; rw [hcl] at this; exact this
          have h3 := cell_of_cells hs.1 q hq
          rw [Addr.add_mid, Addr.add_mid] at h3
          rw [h3]
          exact hu
        · rw [List.getElem?_eq_none (by simpa using hj)] at hy
          cases hy

/-- Its ends are numbers of 64 bits. -/
def Fit (p : Per) : Prop := (-9223372036854775808 ≤ p.lo ∧ p.lo ≤ 9223372036854775807) ∧ -9223372036854775808 ≤ p.hi ∧ p.hi ≤ 9223372036854775807

set_option maxRecDepth 100000 in
theorem trod_per {H : Type} {enc : TypeId × Value → H} {W : World} {fuel : Nat} {cs : List Value} {d : DataW H} {p : List MemPlace} (h : DataW.trod enc Tryz.prog W 0 (fun _ => true) true fuel 24 cs = some (d, p)) : ∃ q : Per, cs = cellsP q ∧ Fit q := by
  obtain ⟨xs, n, _, hd, hl, hxl, hf⟩ := DataW.trod_struct Tryz.underlying24 h
  rw [cells24] at hl
  match cs, hl with
  | [c0, c1], _ =>
    have hxl2 : xs.length = 2 := hxl
    match xs, hxl2 with
    | [y0, y1], _ =>
      have f0 : DataW.trod enc Tryz.prog W 0 (fun _ => true) true n 2 (([c0, c1].drop 0).take (Tryz.prog.cellsOf 2)) = [y0, y1][0]? := hf 0 _ rfl
      rw [cells2] at f0
      change DataW.trod enc Tryz.prog W 0 (fun _ => true) true n 2 [c0] = some y0 at f0
      have f1 : DataW.trod enc Tryz.prog W 0 (fun _ => true) true n 2 (([c0, c1].drop 1).take (Tryz.prog.cellsOf 2)) = [y0, y1][1]? := hf 1 _ rfl
      rw [cells2] at f1
      change DataW.trod enc Tryz.prog W 0 (fun _ => true) true n 2 [c1] = some y1 at f1
      obtain ⟨x, e0, _, w0⟩ := DataW.trod_int Tryz.underlying2 f0
      obtain ⟨y, e1, _, w1⟩ := DataW.trod_int Tryz.underlying2 f1
      simp only [List.cons.injEq, and_true] at e0 e1
      subst e0 e1
      have r0 := bounds_i64 w0
      have r1 := bounds_i64 w1
      exact ⟨⟨x, y⟩, rfl, ⟨r0.1, by show x ≤ _; omega⟩, r1.1, by show y ≤ _; omega⟩

theorem open_per {H : Type} {enc : TypeId × Value → H} {W : World} {base : Nat} {v : Value} {d : DataW H} {p : List MemPlace} (hok : Value.okWide Tryz.prog W .any base 24 v) (h : DataW.Trod enc Tryz.prog W 0 (fun _ => true) true 24 v d p) : ∃ q : Per, v = perV q ∧ Fit q := by
  obtain ⟨cs, rfl, hn⟩ := okWide_struct Tryz.underlying24 hok
  rw [cells24] at hn
  obtain ⟨fuel, hf⟩ := h
  obtain ⟨q, hq, hfit⟩ := trod_per hf
  refine ⟨q, ?_, hfit⟩
  match cs, hn with
  | ⟨[c0, c1]⟩, _ =>
    have h2 : [c0, c1] = cellsP q := by
      rw [← hq]
      rfl
    simp only [cellsP, List.cons.injEq, and_true] at h2
    obtain ⟨rfl, rfl⟩ := h2
    rfl


/-- Periods in memory. -/
def PersIn (B : Nat → Prop) (w : World) (a : Option Addr) (L : List Per) : Prop := ∀ (i : Nat) (p : Per), L[i]? = some p → ∃ g off, a = some ⟨g, off, none⟩ ∧ B g ∧ w.cell? ⟨g, off + i * 2, none⟩ = some (.int .i64 p.lo) ∧ w.cell? ⟨g, off + i * 2 + 1, none⟩ = some (.int .i64 p.hi)
theorem PersIn.fr {B : Nat → Prop} {w w' : World} {a : Option Addr} {L : List Per} {X : Nat → Prop} (h : PersIn B w a L) (hf : Fr w w' X) (hx : ∀ k, B k → ¬ X k) : PersIn B w' a L := fun i p hp => by
  obtain ⟨g, off, e, hb, c0, c1⟩ := h i p hp
  have hk := hf.block g (World.block_lt_of_cell? w _ c0) (hx g hb)
  exact ⟨g, off, e, hb, by rw [World.cell?_of_block (w := w) hk]; exact c0, by rw [World.cell?_of_block (w := w) hk]; exact c1⟩
theorem sum_len : ∀ (B : List Nat), (∀ b ∈ B, 1 ≤ b) → B.length ≤ B.sum
  | [], _ => Nat.le_refl _
  | b :: B, h => by
    have h1 := h b (List.mem_cons_self ..)
    have h2 := sum_len B (fun x hx => h x (List.mem_cons_of_mem _ hx))
    simp only [List.length_cons, List.sum_cons]; omega
theorem open_pers {H : Type} {enc : TypeId × Value → H} {W : World} {v : Value} {d : DataW H} {p : List MemPlace} (h : ∃ fuel, DataW.trod enc Tryz.prog W 0 (fun _ => true) true fuel 22 [v] = some (d, p)) (hs : Rows.uptoBulk d ≤ 1048576) : ∃ (a : Option Addr) (n c : Nat) (L : List Per), v = .slice a n c ∧ L.length = n ∧ n ≤ 1048576 ∧ PersIn (fun k => k < W.heap.size) W a L ∧ ∀ q ∈ L, Fit q := by
  obtain ⟨fuel, h⟩ := h
  obtain ⟨a, n, c, L, B, e, hL, hB, _, _, hS, hOk, hR⟩ := open_row Tryz.underlying22 cells24 (by omega) cellsP (fun _ => rfl) (fun q b => Fit q ∧ 1 ≤ b) (fun n cs D Pl h => by obtain ⟨q, h1, h2⟩ := trod_per h; exact ⟨q, h1, h2, bulk_one_le D⟩) h
  refine ⟨a, n, c, L, e, hL, ?_, fun i x hx => ?_, fun q hq => ?_⟩
  · have h1 := sum_len B (fun b hb => by
      obtain ⟨i, hi⟩ := List.mem_iff_getElem?.1 hb
      have hil : i < L.length := by have := (List.getElem?_eq_some_iff.1 hi).1; omega
      exact (hOk i L[i] b (List.getElem?_eq_getElem hil) hi).2)
    omega
  · obtain ⟨g, off, e1, hr⟩ := hR i x hx
    exact ⟨g, off, e1, World.block_lt_of_cell? W _ (hr 0 _ rfl), hr 0 _ rfl, hr 1 _ rfl⟩
  · obtain ⟨i, hi⟩ := List.mem_iff_getElem?.1 hq
    have hil : i < B.length := by have := (List.getElem?_eq_some_iff.1 hi).1; omega
    exact (hOk i q B[i] hi (List.getElem?_eq_getElem hil)).1
/-- Numbers in memory. -/
def IntsIn (B : Nat → Prop) (w : World) (a : Option Addr) (L : List Int) : Prop := ∀ (i : Nat) (x : Int), L[i]? = some x → ∃ g off, a = some ⟨g, off, none⟩ ∧ B g ∧ w.cell? ⟨g, off + i, none⟩ = some (.int .i64 x)
theorem IntsIn.fr {B : Nat → Prop} {w w' : World} {a : Option Addr} {L : List Int} {X : Nat → Prop} (h : IntsIn B w a L) (hf : Fr w w' X) (hx : ∀ k, B k → ¬ X k) : IntsIn B w' a L := fun i p hp => by
  obtain ⟨g, off, e, hb, c0⟩ := h i p hp
  have hk := hf.block g (World.block_lt_of_cell? w _ c0) (hx g hb)
  exact ⟨g, off, e, hb, by rw [World.cell?_of_block (w := w) hk]; exact c0⟩
theorem open_ints {H : Type} {enc : TypeId × Value → H} {W : World} {v : Value} {d : DataW H} {p : List MemPlace} (h : ∃ fuel, DataW.trod enc Tryz.prog W 0 (fun _ => true) true fuel 25 [v] = some (d, p)) (hs : Rows.uptoBulk d ≤ 1048576) : ∃ (a : Option Addr) (n c : Nat) (L : List Int), v = .slice a n c ∧ L.length = n ∧ n ≤ 1048576 ∧ IntsIn (fun k => k < W.heap.size) W a L ∧ ∀ x ∈ L, In64 x := by
  obtain ⟨fuel, h⟩ := h
  obtain ⟨a, n, c, L, B, e, hL, hB, _, _, hS, hOk, hR⟩ := open_row Tryz.underlying25 cells2 (by omega) (fun x : Int => [.int .i64 x]) (fun _ => rfl) (fun x b => In64 x ∧ 1 ≤ b) (fun n cs D Pl h => by
    obtain ⟨x, h1, _, h3⟩ := DataW.trod_int Tryz.underlying2 h
    exact ⟨x, h1, in64_of h3, bulk_one_le D⟩) h
  refine ⟨a, n, c, L, e, hL, ?_, fun i x hx => ?_, fun x hx => ?_⟩
  · have h1 := sum_len B (fun b hb => by
      obtain ⟨i, hi⟩ := List.mem_iff_getElem?.1 hb
      have hil : i < L.length := by have := (List.getElem?_eq_some_iff.1 hi).1; omega
      exact (hOk i L[i] b (List.getElem?_eq_getElem hil) hi).2)
    omega
  · obtain ⟨g, off, e1, hr⟩ := hR i x hx
    have h0 := hr 0 _ rfl
    rw [Nat.mul_one, Nat.add_zero] at h0
    exact ⟨g, off, e1, World.block_lt_of_cell? W _ h0, h0⟩
  · obtain ⟨i, hi⟩ := List.mem_iff_getElem?.1 hx
    have hil : i < B.length := by have := (List.getElem?_eq_some_iff.1 hi).1; omega
    exact (hOk i x B[i] hi (List.getElem?_eq_getElem hil)).1
end Go.Proofs.YtigkinakhijfoaaGreat
