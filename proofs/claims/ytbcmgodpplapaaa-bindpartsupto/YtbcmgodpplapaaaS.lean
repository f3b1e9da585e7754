/- What comes in: tables. -/
import Derived.Test.YtbcmgodpplapaaaR
import Derived.ProofKit
import Derived.OpenShut
import Derived.ShutString
import Derived.ChangeOld
import Derived.SizedLaws
import Derived.Deep.Grids
namespace Go.Proofs.Ytbcmgodpplapaaa
open Go.ChangeShapes Go.WideShapes Go.ChangeAt Go.RowKit Go.Deep
set_option maxRecDepth 100000
set_option linter.unusedVariables false

theorem own : ownKnob Try.prog.godebug = none := by kernel_rfl
theorem laidOut : laidOutB Try.prog = true := by kernel_rfl
theorem cells3 : Try.prog.cellsOf 3 = 1 := by kernel_rfl
theorem cells4 : Try.prog.cellsOf 4 = 1 := by kernel_rfl
theorem cells9 : Try.prog.cellsOf 9 = 1 := by kernel_rfl
theorem cells44 : Try.prog.cellsOf 44 = 1 := by kernel_rfl
theorem cells45 : Try.prog.cellsOf 45 = 1 := by kernel_rfl
theorem cells29 : Try.prog.cellsOf 29 = 2 := by kernel_rfl
theorem cells47 : Try.prog.cellsOf 47 = 5 := by kernel_rfl
theorem cell_of_cells {W : World} {a : Addr} {n : Nat} {cs : List Value} (h : W.cells? 0 a n = some cs) (i : Nat) (hi : i < n) : W.cell? (a.add i) = cs[i]? := (World.cells?_some h).2.2 i hi

theorem bulk_one_le {H : Type} (d : DataW H) : 1 ≤ Rows.uptoBulk d := by
  cases d with
  | lit l => cases l <;> simp [Rows.uptoBulk]
  | nil => simp [Rows.uptoBulk]
  | ptr d => simp [Rows.uptoBulk]
  | slice elems spare => simp [Rows.uptoBulk]
  | agg parts => simp [Rows.uptoBulk]
  | iface t d => simp [Rows.uptoBulk]
  | map entries => simp [Rows.uptoBulk]
  | held h => simp [Rows.uptoBulk]
theorem bulk_part_le {H : Type} {d : DataW H} {l : List (DataW H)} (h : d ∈ l) : Rows.uptoBulk d ≤ Rows.uptoBulkAll l := by
  induction l with
  | nil => cases h
  | cons x r ih =>
    simp only [Rows.uptoBulkAll]
    cases List.mem_cons.1 h with
    | inl e => subst e; omega
    | inr e => have := ih e; omega
theorem bulk_length_le {H : Type} (l : List (DataW H)) : l.length ≤ Rows.uptoBulkAll l := by
  induction l with
  | nil => simp [Rows.uptoBulkAll]
  | cons x r ih => have := bulk_one_le x; simp only [Rows.uptoBulkAll, List.length_cons]; omega
theorem bulk_bound {H : Type} {l : List (DataW H)} (hk : Rows.uptoSmall H l = true) : Rows.uptoBulkAll l ≤ 1048576 := of_decide_eq_true hk

/-- A slice read element by element: what each is, at its place. -/
theorem open_row {H α : Type} {enc : TypeId × Value → H} {W : World} {t e : TypeId} {size : Nat} {fuel : Nat} {v : Value} {d : DataW H} {p : List MemPlace} (ht : Try.prog.underlying t = some (.slice e)) (hc : Try.prog.cellsOf e = size) (hsz : 0 < size) (cells : α → List Value) (hcl : ∀ x, (cells x).length = size) (Ok : α → Nat → Prop)
    (hel : ∀ n cs D Pl, DataW.trod enc Try.prog W 0 (fun _ => true) true n e cs = some (D, Pl) → ∃ x, cs = cells x ∧ Ok x (Rows.uptoBulk D))
    (h : DataW.trod enc Try.prog W 0 (fun _ => true) true fuel t [v] = some (d, p)) :
    ∃ (a : Option Addr) (n c : Nat) (L : List α) (B : List Nat), v = .slice a n c ∧ L.length = n ∧ B.length = n ∧ n ≤ c ∧ (a = none → c = 0) ∧ B.sum + 1 ≤ Rows.uptoBulk d ∧ (∀ (i : Nat) (x : α) (b : Nat), L[i]? = some x → B[i]? = some b → Ok x b) ∧
      (∀ (i : Nat) (x : α), L[i]? = some x → ∃ g off, a = some ⟨g, off, none⟩ ∧ W.rangeAt g (off + i * size) (cells x)) := by
  rcases open_slice ht h with ⟨hcs, hd⟩ | ⟨x, l, c, m, n, D, Pl, hcs, _, hl, _, hm, hx, hels⟩
  · simp only [List.cons.injEq, and_true] at hcs
    subst hcs
    exact ⟨none, 0, 0, [], [], rfl, rfl, rfl, Nat.le_refl _, fun _ => rfl, by simpa using bulk_one_le d, fun i x b h => by simp at h, fun i x h => by simp at h⟩
  · simp only [List.cons.injEq, and_true] at hcs
    subst hcs
    simp only [Prod.mk.injEq] at hx
    obtain ⟨rfl, _⟩ := hx
    simp only [if_true] at hm
    subst hm
    rw [hc] at hels
    have key : ∀ j, j < l → ∃ y : α, W.cells? 0 (x.add (j * size)) size = some (cells y) ∧ Ok y (Rows.uptoBulk (D j)) := by
      intro j hj
      obtain ⟨cs', h1, h2⟩ := hels j (by omega)
      obtain ⟨y, rfl, hy⟩ := hel _ _ _ _ h2
      exact ⟨y, h1, hy⟩
    have hbl : ∀ (q : Nat), ((List.range q).map fun j => Rows.uptoBulk (D j)).sum = Rows.uptoBulkAll ((List.range q).map D) := by
      intro q
      induction (List.range q) with
      | nil => simp [Rows.uptoBulkAll]
      | cons a r ih => simp only [List.map_cons, List.sum_cons, Rows.uptoBulkAll, ih]
    by_cases h0 : l = 0
    · subst h0
      exact ⟨some x, 0, m, [], [], rfl, rfl, rfl, hl, (fun h => by cases h), by simpa using bulk_one_le _, fun i x b h => by simp at h, fun i x h => by simp at h⟩
    · obtain ⟨b, off, spot⟩ := x
      have hspot : spot = none := by
        obtain ⟨y, h1, _⟩ := key 0 (by omega)
        have h2 := cell_of_cells h1 0 hsz
        obtain ⟨u, hu⟩ : ∃ u, (cells y)[0]? = some u := ⟨_, List.getElem?_eq_getElem (by rw [hcl]; exact hsz)⟩
        simpa [Addr.add] using World.cell?_spot (h2.trans hu)
      subst hspot
      have ne : Nonempty α := by obtain ⟨y, _⟩ := key 0 (by omega); exact ⟨y⟩
      refine ⟨some ⟨b, off, none⟩, l, m, (List.range l).map fun j => if hj : j < l then Classical.choose (key j hj) else Classical.choice ne, (List.range l).map fun j => Rows.uptoBulk (D j), rfl, by simp, by simp, hl, (fun h => by cases h), ?_, ?_, ?_⟩
      · rw [hbl]; simp only [Rows.uptoBulk]; omega
      · intro i y q hy hq
        simp only [List.getElem?_map] at hy hq
        by_cases hj : i < l
        · simp only [List.getElem?_range, hj, Option.map_some, Option.some.injEq, dif_pos] at hy hq
          have hs := Classical.choose_spec (key i hj)
          rw [hy, hq] at hs
          exact hs.2
        · rw [List.getElem?_eq_none (by simpa using hj)] at hy
          cases hy
      · intro i y hy
        simp only [List.getElem?_map] at hy
        by_cases hj : i < l
        · simp only [List.getElem?_range, hj, Option.map_some, Option.some.injEq, dif_pos] at hy
          have hs := Classical.choose_spec (key i hj)
          rw [hy] at hs
          refine ⟨b, off, rfl, fun q u hu => ?_⟩
          have hq : q < size := by have := (List.getElem?_eq_some_iff.1 hu).1; rw [hcl] at this; exact this
          have h3 := cell_of_cells hs.1 q hq
          rw [Addr.add_mid, Addr.add_mid] at h3
          rw [h3]
          exact hu
        · rw [List.getElem?_eq_none (by simpa using hj)] at hy
          cases hy
theorem trod_col {H : Type} {enc : TypeId × Value → H} {W : World} (fuel : Nat) (cs : List Value) (d : DataW H) (p : List MemPlace) (h : DataW.trod enc Try.prog W 0 (fun _ => true) true fuel 29 cs = some (d, p)) : ∃ x : ByteArray × Int, cs = [.string x.1, .int .i64 x.2] ∧ True := by
  obtain ⟨xs, n, _, hd, hl, hxl, hf⟩ := DataW.trod_struct Try.underlying29 h
  rw [cells29] at hl
  match cs, hl with
  | [c0, c1], _ =>
    have hxl2 : xs.length = 2 := hxl
    match xs, hxl2 with
    | [y0, y1], _ =>
      have f0 : DataW.trod enc Try.prog W 0 (fun _ => true) true n 9 (([c0, c1].drop 0).take (Try.prog.cellsOf 9)) = [y0, y1][0]? := hf 0 _ rfl
      rw [cells9] at f0
      change DataW.trod enc Try.prog W 0 (fun _ => true) true n 9 [c0] = some y0 at f0
      have f1 : DataW.trod enc Try.prog W 0 (fun _ => true) true n 3 (([c0, c1].drop 1).take (Try.prog.cellsOf 3)) = [y0, y1][1]? := hf 1 _ rfl
      rw [cells3] at f1
      change DataW.trod enc Try.prog W 0 (fun _ => true) true n 3 [c1] = some y1 at f1
      obtain ⟨s, e0, _⟩ := DataW.trod_string Try.underlying9 f0
      obtain ⟨k, e1, _⟩ := DataW.trod_int Try.underlying3 f1
      simp only [List.cons.injEq, and_true] at e0 e1
      subst e0 e1
      exact ⟨(s, k), rfl, trivial⟩
theorem trod_str {H : Type} {enc : TypeId × Value → H} {W : World} (fuel : Nat) (cs : List Value) (d : DataW H) (p : List MemPlace) (h : DataW.trod enc Try.prog W 0 (fun _ => true) true fuel 9 cs = some (d, p)) : ∃ x : ByteArray, cs = [.string x] ∧ True := by
  obtain ⟨s, e0, _⟩ := DataW.trod_string Try.underlying9 h
  exact ⟨s, e0, trivial⟩
def Tb.cells (t : Tb) : List Value := [.int .i64 t.id, .string t.name, .slice t.ca t.cols.length t.cc, .slice t.ka t.kn t.kc, .bool t.ix]
theorem trod_tab {H : Type} {enc : TypeId × Value → H} {W : World} (fuel : Nat) (cs : List Value) (d : DataW H) (p : List MemPlace) (h : DataW.trod enc Try.prog W 0 (fun _ => true) true fuel 47 cs = some (d, p)) : ∃ t : Tb, cs = t.cells ∧ (CksIn W t.ca t.cols ∧ t.cols.length + 1 ≤ Rows.uptoBulk d) := by
  obtain ⟨xs, n, _, hd, hl, hxl, hf⟩ := DataW.trod_struct Try.underlying47 h
  rw [cells47] at hl
  match cs, hl with
  | [c0, c1, c2, c3, c4], _ =>
    have hxl5 : xs.length = 5 := hxl
    match xs, hxl5 with
    | [y0, y1, y2, y3, y4], _ =>
      have f0 : DataW.trod enc Try.prog W 0 (fun _ => true) true n 3 (([c0, c1, c2, c3, c4].drop 0).take (Try.prog.cellsOf 3)) = [y0, y1, y2, y3, y4][0]? := hf 0 _ rfl
      rw [cells3] at f0
      change DataW.trod enc Try.prog W 0 (fun _ => true) true n 3 [c0] = some y0 at f0
      have f1 : DataW.trod enc Try.prog W 0 (fun _ => true) true n 9 (([c0, c1, c2, c3, c4].drop 1).take (Try.prog.cellsOf 9)) = [y0, y1, y2, y3, y4][1]? := hf 1 _ rfl
      rw [cells9] at f1
      change DataW.trod enc Try.prog W 0 (fun _ => true) true n 9 [c1] = some y1 at f1
      have f2 : DataW.trod enc Try.prog W 0 (fun _ => true) true n 44 (([c0, c1, c2, c3, c4].drop 2).take (Try.prog.cellsOf 44)) = [y0, y1, y2, y3, y4][2]? := hf 2 _ rfl
      rw [cells44] at f2
      change DataW.trod enc Try.prog W 0 (fun _ => true) true n 44 [c2] = some y2 at f2
      have f3 : DataW.trod enc Try.prog W 0 (fun _ => true) true n 45 (([c0, c1, c2, c3, c4].drop 3).take (Try.prog.cellsOf 45)) = [y0, y1, y2, y3, y4][3]? := hf 3 _ rfl
      rw [cells45] at f3
      change DataW.trod enc Try.prog W 0 (fun _ => true) true n 45 [c3] = some y3 at f3
      have f4 : DataW.trod enc Try.prog W 0 (fun _ => true) true n 4 (([c0, c1, c2, c3, c4].drop 4).take (Try.prog.cellsOf 4)) = [y0, y1, y2, y3, y4][4]? := hf 4 _ rfl
      rw [cells4] at f4
      change DataW.trod enc Try.prog W 0 (fun _ => true) true n 4 [c4] = some y4 at f4
      have hd1 : d = .agg [y0.1, y1.1, y2.1, y3.1, y4.1] := (Prod.mk.inj hd).1
      obtain ⟨k, e0, _⟩ := DataW.trod_int Try.underlying3 f0
      obtain ⟨s, e1, _⟩ := DataW.trod_string Try.underlying9 f1
      obtain ⟨b, e4, _⟩ := DataW.trod_bool Try.underlying4 f4
      obtain ⟨ca, cn, cc, L, B, e2, hL, hB, _, _, hS, _, hR⟩ := open_row (d := y2.1) (p := y2.2) Try.underlying44 cells29 (by omega) (fun x : ByteArray × Int => [.string x.1, .int .i64 x.2]) (fun _ => rfl) (fun _ _ => True) (fun n cs D Pl h => trod_col n cs D Pl h) f2
      obtain ⟨ka, kn, kc, _, _, e3, _⟩ := open_row (d := y3.1) (p := y3.2) Try.underlying45 cells9 (by omega) (fun x : ByteArray => [.string x]) (fun _ => rfl) (fun _ _ => True) (fun n cs D Pl h => trod_str n cs D Pl h) f3
      simp only [List.cons.injEq, and_true] at e0 e1 e4
      subst e0 e1 e2 e3 e4
      have hn2 : cn ≤ Rows.uptoBulk y2.1 := by
        rcases open_slice Try.underlying44 f2 with ⟨hcs, _⟩ | ⟨x, l, c, m, n', D, Pl, hcs, _, hl, _, hm, hx, _⟩
        · simp only [List.cons.injEq, Value.slice.injEq, and_true] at hcs
          omega
        · simp only [List.cons.injEq, Value.slice.injEq, and_true] at hcs
          obtain ⟨_, rfl, _⟩ := hcs
          have hx1 := (Prod.mk.inj hx).1
          rw [hx1]
          have := bulk_length_le ((List.range cn).map D)
          simp only [Rows.uptoBulk, List.length_map, List.length_range] at this ⊢
          omega
      refine ⟨⟨k, s, L, ca, cc, ka, kn, kc, b⟩, by unfold Tb.cells; simp only []; rw [hL], ?_, ?_⟩
      · intro i x hx
        obtain ⟨g, off, ha, hr⟩ := hR i x hx
        exact ⟨g, off, ha, by have := hr 0 _ rfl; simpa using this, hr 1 _ rfl⟩
      · rw [hd1]
        simp only [Rows.uptoBulk, Rows.uptoBulkAll]
        omega
theorem scope_sum : ∀ (T : List Tb) (B : List Nat), T.length = B.length → (∀ (i : Nat) (t : Tb) (b : Nat), T[i]? = some t → B[i]? = some b → t.cols.length + 1 ≤ b) → (T.flatMap fun t => colsP t t.cols.length).length ≤ B.sum
  | [], B, _, _ => by simp
  | t :: T, [], h, _ => by simp at h
  | t :: T, b :: B, h, hi => by
    have h1 := scope_sum T B (by simpa using h) (fun i t b ht hb => hi (i + 1) t b (by simpa using ht) (by simpa using hb))
    have h2 := hi 0 t b rfl rfl
    have h3 : (colsP t t.cols.length).length = t.cols.length := by unfold colsP; rw [List.length_map, List.take_length]
    simp only [List.flatMap_cons, List.length_append, List.sum_cons]
    omega
theorem open_tabs {H : Type} {enc : TypeId × Value → H} {W : World} {v : Value} {d : DataW H} {p : List MemPlace} (h : ∃ fuel, DataW.trod enc Try.prog W 0 (fun _ => true) true fuel 22 [v] = some (d, p)) (hs : Rows.uptoBulk d ≤ 1048576) :
    ∃ (a : Option Addr) (n c : Nat) (T : List Tb), v = .slice a n c ∧ T.length = n ∧ TabsIn W a T ∧ n ≤ 1048576 ∧ (∀ t ∈ T, t.cols.length ≤ 4611686018427387904) ∧ (scopeP T T.length).length ≤ 1048576 := by
  obtain ⟨fuel, hf⟩ := h
  obtain ⟨a, n, c, T, B, hv, hT, hB, _, _, hS, hOk, hR⟩ := open_row (d := d) (p := p) Try.underlying22 cells47 (by omega) Tb.cells (fun _ => rfl) (fun t b => CksIn W t.ca t.cols ∧ t.cols.length + 1 ≤ b) (fun n cs D Pl h => trod_tab n cs D Pl h) hf
  have hsum : (scopeP T T.length).length ≤ B.sum := by
    unfold scopeP
    rw [List.take_length]
    exact scope_sum T B (by omega) (fun i t b ht hb => (hOk i t b ht hb).2)
  have get : ∀ (i : Nat) (t : Tb), T[i]? = some t → ∃ b, B[i]? = some b := fun i t ht => ⟨_, List.getElem?_eq_getElem (by have := (List.getElem?_eq_some_iff.1 ht).1; omega)⟩
  have hsl : ∀ (L : List Nat), (∀ b ∈ L, 1 ≤ b) → L.length ≤ L.sum := by
    intro L
    induction L with
    | nil => simp
    | cons a L ih => intro hL; have h1 := hL a (by simp); have h2 := ih (fun b hb => hL b (by simp [hb])); simp only [List.length_cons, List.sum_cons]; omega
  have hmem : ∀ (L : List Nat) (b : Nat), b ∈ L → b ≤ L.sum := by
    intro L
    induction L with
    | nil => intro b hb; cases hb
    | cons a L ih => intro b hb; rcases List.mem_cons.1 hb with rfl | hb; simp only [List.sum_cons]; omega; have := ih b hb; simp only [List.sum_cons]; omega
  refine ⟨a, n, c, T, hv, hT, ?_, ?_, ?_, by omega⟩
  · intro i t ht
    obtain ⟨b, hb⟩ := get i t ht
    obtain ⟨g, off, ha, hr⟩ := hR i t ht
    exact ⟨⟨g, off, ha, by have := hr 0 _ rfl; simpa using this, hr 1 _ rfl, hr 2 _ rfl, hr 3 _ rfl, hr 4 _ rfl⟩, (hOk i t b ht hb).1⟩
  · have := hsl B (fun b hb => by
      obtain ⟨i, hi⟩ := List.getElem?_of_mem hb
      obtain ⟨t, ht⟩ : ∃ t, T[i]? = some t := ⟨_, List.getElem?_eq_getElem (by have := (List.getElem?_eq_some_iff.1 hi).1; omega)⟩
      have := (hOk i t b ht hi).2
      omega)
    omega
  · intro t ht
    obtain ⟨i, hi⟩ := List.getElem?_of_mem ht
    obtain ⟨b, hb⟩ := get i t hi
    have h1 := (hOk i t b hi hb).2
    have h2 := hmem B b (List.mem_of_getElem? hb)
    omega
end Go.Proofs.Ytbcmgodpplapaaa
