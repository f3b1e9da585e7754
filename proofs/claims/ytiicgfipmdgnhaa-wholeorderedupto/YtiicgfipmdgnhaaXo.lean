/- What comes in: rows of values. -/
import Derived.Test.YtiicgfipmdgnhaaXc
import Derived.ProofKit
import Derived.OpenShut
import Derived.ShutString
import Derived.ChangeOld
import Derived.SizedLaws
import Derived.Deep.Grids
import Derived.SliceStrings
namespace Go.Proofs.Ytiicgfipmdgnhaa
open Go.ChangeShapes Go.WideShapes Go.ChangeAt Go.RowKit Go.Deep
set_option maxRecDepth 100000
set_option linter.unusedVariables false

theorem own : ownKnob Try.prog.godebug = none := by kernel_rfl
theorem laidOut : laidOutB Try.prog = true := by kernel_rfl
theorem cells9 : Try.prog.cellsOf 9 = 1 := by kernel_rfl
theorem cell_of_cells {W : World} {a : Addr} {n : Nat} {cs : List Value} (h : W.cells? 0 a n = some cs) (i : Nat) (hi : i < n) : W.cell? (a.add i) = cs[i]? := (World.cells?_some h).2.2 i hi
theorem bulk_one_le {H : Type} (d : DataW H) : 1 ≤ Rows.uptoBulk d := by
  cases d with
  | lit l => cases l <;> simp [Rows.uptoBulk]
  | nil => simp [Rows.uptoBulk]
  | ptr d => simp [Rows.uptoBulk]
  | slice elems spare => simp [Rows.uptoBulk]
  | agg parts => simp [Rows.uptoBulk]
  | iface t d => simp [Rows.uptoBulk]
  | map entries => simp [Rows.uptoBulk]
  | held h => simp [Rows.uptoBulk]
theorem bulk_part_le {H : Type} {d : DataW H} {l : List (DataW H)} (h : d ∈ l) : Rows.uptoBulk d ≤ Rows.uptoBulkAll l := by
  induction l with
  | nil => cases h
  | cons x r ih =>
    simp only [Rows.uptoBulkAll]
    cases List.mem_cons.1 h with
    | inl e => subst e; omega
    | inr e => have := ih e; omega
theorem bulk_length_le {H : Type} (l : List (DataW H)) : l.length ≤ Rows.uptoBulkAll l := by
  induction l with
  | nil => simp [Rows.uptoBulkAll]
  | cons x r ih => have := bulk_one_le x; simp only [Rows.uptoBulkAll, List.length_cons]; omega
theorem bulk_bound {H : Type} {l : List (DataW H)} (hk : Rows.uptoSmall H l = true) : Rows.uptoBulkAll l ≤ 1048576 := of_decide_eq_true hk

/-- A slice read element by element: what each is, at its place. -/
theorem open_row {H α : Type} {enc : TypeId × Value → H} {W : World} {t e : TypeId} {size : Nat} {fuel : Nat} {v : Value} {d : DataW H} {p : List MemPlace} (ht : Try.prog.underlying t = some (.slice e)) (hc : Try.prog.cellsOf e = size) (hsz : 0 < size) (cells : α → List Value) (hcl : ∀ x, (cells x).length = size) (Ok : α → Nat → Prop)
    (hel : ∀ n cs D Pl, DataW.trod enc Try.prog W 0 (fun _ => true) true n e cs = some (D, Pl) → ∃ x, cs = cells x ∧ Ok x (Rows.uptoBulk D))
    (h : DataW.trod enc Try.prog W 0 (fun _ => true) true fuel t [v] = some (d, p)) :
    ∃ (a : Option Addr) (n c : Nat) (L : List α) (B : List Nat), v = .slice a n c ∧ L.length = n ∧ B.length = n ∧ n ≤ c ∧ (a = none → c = 0) ∧ B.sum + 1 ≤ Rows.uptoBulk d ∧ (∀ (i : Nat) (x : α) (b : Nat), L[i]? = some x → B[i]? = some b → Ok x b) ∧
      (∀ (i : Nat) (x : α), L[i]? = some x → ∃ g off, a = some ⟨g, off, none⟩ ∧ W.rangeAt g (off + i * size) (cells x)) := by
  rcases open_slice ht h with ⟨hcs, hd⟩ | ⟨x, l, c, m, n, D, Pl, hcs, _, hl, _, hm, hx, hels⟩
  · simp only [List.cons.injEq, and_true] at hcs
    subst hcs
    exact ⟨none, 0, 0, [], [], rfl, rfl, rfl, Nat.le_refl _, fun _ => rfl, by simpa using bulk_one_le d, fun i x b h => by simp at h, fun i x h => by simp at h⟩
  · simp only [List.cons.injEq, and_true] at hcs
    subst hcs
    simp only [Prod.mk.injEq] at hx
    obtain ⟨rfl, _⟩ := hx
    simp only [if_true] at hm
    subst hm
    rw [hc] at hels
    have key : ∀ j, j < l → ∃ y : α, W.cells? 0 (x.add (j * size)) size = some (cells y) ∧ Ok y (Rows.uptoBulk (D j)) := by
      intro j hj
      obtain ⟨cs', h1, h2⟩ := hels j (by omega)
      obtain ⟨y, rfl, hy⟩ := hel _ _ _ _ h2
      exact ⟨y, h1, hy⟩
    have hbl : ∀ (q : Nat), ((List.range q).map fun j => Rows.uptoBulk (D j)).sum = Rows.uptoBulkAll ((List.range q).map D) := by
      intro q
      induction (List.range q) with
      | nil => simp [Rows.uptoBulkAll]
      | cons a r ih => simp only [List.map_cons, List.sum_cons, Rows.uptoBulkAll, ih]
    by_cases h0 : l = 0
    · subst h0
      exact ⟨some x, 0, m, [], [], rfl, rfl, rfl, hl, (fun h => by cases h), by simpa using bulk_one_le _, fun i x b h => by simp at h, fun i x h => by simp at h⟩
    · obtain ⟨b, off, spot⟩ := x
      have hspot : spot = none := by
        obtain ⟨y, h1, _⟩ := key 0 (by omega)
        have h2 := cell_of_cells h1 0 hsz
        obtain ⟨u, hu⟩ : ∃ u, (cells y)[0]? = some u := ⟨_, List.getElem?_eq_getElem (by rw [hcl]; exact hsz)⟩
        simpa [Addr.add] using World.cell?_spot (h2.trans hu)
      subst hspot
      have ne : Nonempty α := by obtain ⟨y, _⟩ := key 0 (by omega); exact ⟨y⟩
      refine ⟨some ⟨b, off, none⟩, l, m, (List.range l).map fun j => if hj : j < l then Classical.choose (key j hj) else Classical.choice ne, (List.range l).map fun j => Rows.uptoBulk (D j), rfl, by simp, by simp, hl, (fun h => by cases h), ?_, ?_, ?_⟩
      · rw [hbl]; simp only [Rows.uptoBulk]; omega
      · intro i y q hy hq
        simp only [List.getElem?_map] at hy hq
        by_cases hj : i < l
        · simp only [List.getElem?_range, hj, Option.map_some, Option.some.injEq, dif_pos] at hy hq
          have hs := Classical.choose_spec (key i hj)
          rw [hy, hq] at hs
          exact hs.2
        · rw [List.getElem?_eq_none (by simpa using hj)] at hy
          cases hy
      · intro i y hy
        simp only [List.getElem?_map] at hy
        by_cases hj : i < l
        · simp only [List.getElem?_range, hj, Option.map_some, Option.some.injEq, dif_pos] at hy
          have hs := Classical.choose_spec (key i hj)
          rw [hy] at hs
          refine ⟨b, off, rfl, fun q u hu => ?_⟩
          have hq : q < size := by have := (List.getElem?_eq_some_iff.1 hu).1; rw [hcl] at this; exact this
          have h3 := cell_of_cells hs.1 q hq
          rw [Addr.add_mid, Addr.add_mid] at h3
          rw [h3]
          exact hu
        · rw [List.getElem?_eq_none (by simpa using hj)] at hy
          cases hy

theorem cells2' : Try.prog.cellsOf 2 = 1 := by kernel_rfl
theorem cells3' : Try.prog.cellsOf 3 = 1 := by kernel_rfl
theorem cells23 : Try.prog.cellsOf 23 = 1 := by kernel_rfl
theorem cells57 : Try.prog.cellsOf 57 = 3 := by kernel_rfl
theorem strOf_back (s : ByteArray) : strOf s.data.toList = s := by simp [strOf]
theorem trod_val {H : Type} {enc : TypeId × Value → H} {W : World} (fuel : Nat) (cs : List Value) (d : DataW H) (p : List MemPlace) (h : DataW.trod enc Try.prog W 0 (fun _ => true) true fuel 57 cs = some (d, p)) : ∃ x : Val, cs = cellsV x ∧ 1 ≤ Rows.uptoBulk d ∧ -9223372036854775808 ≤ x.num ∧ x.num < 9223372036854775808 := by
  obtain ⟨xs, n, _, hd, hl, hxl, hf⟩ := DataW.trod_struct Try.underlying57 h
  rw [cells57] at hl
  match cs, hl with
  | [c0, c1, c2], _ =>
    have hxl3 : xs.length = 3 := hxl
    match xs, hxl3 with
    | [y0, y1, y2], _ =>
      have f0 : DataW.trod enc Try.prog W 0 (fun _ => true) true n 3 (([c0, c1, c2].drop 0).take (Try.prog.cellsOf 3)) = [y0, y1, y2][0]? := hf 0 _ rfl
      rw [cells3'] at f0
      change DataW.trod enc Try.prog W 0 (fun _ => true) true n 3 [c0] = some y0 at f0
      have f1 : DataW.trod enc Try.prog W 0 (fun _ => true) true n 2 (([c0, c1, c2].drop 1).take (Try.prog.cellsOf 2)) = [y0, y1, y2][1]? := hf 1 _ rfl
      rw [cells2'] at f1
      change DataW.trod enc Try.prog W 0 (fun _ => true) true n 2 [c1] = some y1 at f1
      have f2 : DataW.trod enc Try.prog W 0 (fun _ => true) true n 9 (([c0, c1, c2].drop 2).take (Try.prog.cellsOf 9)) = [y0, y1, y2][2]? := hf 2 _ rfl
      rw [cells9] at f2
      change DataW.trod enc Try.prog W 0 (fun _ => true) true n 9 [c2] = some y2 at f2
      obtain ⟨k, e0, hk⟩ := DataW.trod_int Try.underlying3 f0
      obtain ⟨i, e1, hi⟩ := DataW.trod_int Try.underlying2 f1
      obtain ⟨s, e2, _⟩ := DataW.trod_string Try.underlying9 f2
      simp only [List.cons.injEq, and_true] at e0 e1 e2
      subst e0 e1 e2
      have h64 := in64_of hi.2
      unfold In64 at h64
      exact ⟨⟨k, i, s.data.toList⟩, by unfold cellsV; rw [strOf_back], bulk_one_le d, h64.1, by have := h64.2; dsimp only; omega⟩
theorem sum_len : ∀ (B : List Nat), (∀ b ∈ B, 1 ≤ b) → B.length ≤ B.sum
  | [], _ => Nat.le_refl _
  | b :: B, h => by
    have h1 := h b (List.mem_cons_self ..)
    have h2 := sum_len B (fun x hx => h x (List.mem_cons_of_mem _ hx))
    simp only [List.length_cons, List.sum_cons]; omega
theorem open_valsB {H : Type} {enc : TypeId × Value → H} {W : World} {v : Value} {d : DataW H} {p : List MemPlace} {fuel : Nat} (h : DataW.trod enc Try.prog W 0 (fun _ => true) true fuel 23 [v] = some (d, p)) : ∃ (a : Option Addr) (n c : Nat) (R : List Val), v = .slice a n c ∧ R.length = n ∧ n + 1 ≤ Rows.uptoBulk d ∧ n ≤ c ∧ Vals W a R ∧ Wf R := by
  obtain ⟨a, n, c, R, B, e, hR, hB, hnc, _, hS, hOk, hRa⟩ := open_row (d := d) (p := p) Try.underlying23 cells57 (by omega) cellsV (fun _ => rfl) (fun x b => 1 ≤ b ∧ -9223372036854775808 ≤ x.num ∧ x.num < 9223372036854775808) (fun n cs D Pl h => trod_val n cs D Pl h) h
  have hBl := sum_len B (fun b hb => by
    obtain ⟨i, hi⟩ := List.mem_iff_getElem?.1 hb
    have hil : i < R.length := by have := (List.getElem?_eq_some_iff.1 hi).1; omega
    exact (hOk i R[i] b (List.getElem?_eq_getElem hil) hi).1)
  refine ⟨a, n, c, R, e, hR, by omega, hnc, ?_, fun x hx => ?_⟩
  · cases R with
    | nil => exact .inl rfl
    | cons r R' =>
      obtain ⟨g, off, ha, _⟩ := hRa 0 r rfl
      refine .inr ⟨g, off, ha, fun i x hi => ?_⟩
      obtain ⟨g', off', ha', hr⟩ := hRa i x hi
      rw [ha] at ha'
      cases ha'
      have e0 := hr 0 _ rfl
      rw [Nat.add_zero] at e0
      exact ⟨e0, hr 1 _ rfl, hr 2 _ rfl⟩
  · obtain ⟨i, hi⟩ := List.mem_iff_getElem?.1 hx
    obtain ⟨b, hb⟩ : ∃ b, B[i]? = some b := ⟨_, List.getElem?_eq_getElem (by rw [hB, ← hR]; exact (List.getElem?_eq_some_iff.1 hi).1)⟩
    exact (hOk i x b hi hb).2
theorem open_vals {H : Type} {enc : TypeId × Value → H} {W : World} {v : Value} {d : DataW H} {p : List MemPlace} (h : ∃ fuel, DataW.trod enc Try.prog W 0 (fun _ => true) true fuel 23 [v] = some (d, p)) (hs : Rows.uptoBulk d ≤ 1048576) : ∃ (a : Option Addr) (n c : Nat) (R : List Val), v = .slice a n c ∧ R.length = n ∧ n ≤ 1048576 ∧ Vals W a R ∧ Wf R ∧ n ≤ c := by
  obtain ⟨fuel, h⟩ := h
  obtain ⟨a, n, c, R, e, h1, h2, h3, h4, h5⟩ := open_valsB h
  exact ⟨a, n, c, R, e, h1, by omega, h4, h5, h3⟩
theorem sum_mem : ∀ (B : List Nat) (b : Nat), b ∈ B → b ≤ B.sum
  | [], b, h => by simp at h
  | x :: B, b, h => by
    simp only [List.sum_cons]
    rcases List.mem_cons.1 h with h | h
    · omega
    · have := sum_mem B b h; omega
theorem open_rows {H : Type} {enc : TypeId × Value → H} {W : World} {v : Value} {d : DataW H} {p : List MemPlace} (h : ∃ fuel, DataW.trod enc Try.prog W 0 (fun _ => true) true fuel 22 [v] = some (d, p)) (hs : Rows.uptoBulk d ≤ 1048576) : ∃ (a : Option Addr) (n c : Nat) (L : List (List Val)), v = .slice a n c ∧ L.length = n ∧ n ≤ 1048576 ∧ RwsIn W a L := by
  obtain ⟨fuel, h⟩ := h
  obtain ⟨a, n, c, L, B, e, hL, hB, hnc, _, hS, hOk, hRa⟩ := open_row (d := d) (p := p) Try.underlying22 cells23 (by omega) (fun x : Option Addr × Nat × List Val => [.slice x.1 x.2.2.length x.2.1]) (fun _ => rfl) (fun x b => x.2.2.length + 1 ≤ b ∧ Vals W x.1 x.2.2 ∧ Wf x.2.2) (fun n cs D Pl h => by
    have hl : cs.length = 1 := by
      rcases open_slice Try.underlying23 h with ⟨hcs, _⟩ | ⟨_, _, _, _, _, _, _, hcs, _⟩ <;> rw [hcs] <;> rfl
    match cs, hl with
    | [c0], _ =>
      obtain ⟨a', n', c', R, e, h1, h2, h3, h4, h5⟩ := open_valsB h
      exact ⟨(a', c', R), by rw [e, ← h1], by rw [h1]; exact h2, h4, h5⟩) h
  have hBl := sum_len B (fun b hb => by
    obtain ⟨i, hi⟩ := List.mem_iff_getElem?.1 hb
    have hil : i < L.length := by have := (List.getElem?_eq_some_iff.1 hi).1; omega
    have := (hOk i L[i] b (List.getElem?_eq_getElem hil) hi).1
    omega)
  refine ⟨a, n, c, L.map (fun x => x.2.2), e, by rw [List.length_map]; exact hL, by omega, fun i R hi => ?_⟩
  rw [List.getElem?_map] at hi
  obtain ⟨x, hx, rfl⟩ := Option.map_eq_some_iff.1 hi
  obtain ⟨g, off, ha, hr⟩ := hRa i x hx
  obtain ⟨b, hb⟩ : ∃ b, B[i]? = some b := ⟨_, List.getElem?_eq_getElem (by rw [hB, ← hL]; exact (List.getElem?_eq_some_iff.1 hx).1)⟩
  obtain ⟨o1, o2, o3⟩ := hOk i x b hx hb
  have e0 := hr 0 _ rfl
  rw [Nat.add_zero, Nat.mul_one] at e0
  have hbs := sum_mem B b (List.mem_of_getElem? hb)
  exact ⟨g, off, x.1, x.2.1, ha, e0, o2, by omega, o3⟩
end Go.Proofs.Ytiicgfipmdgnhaa
