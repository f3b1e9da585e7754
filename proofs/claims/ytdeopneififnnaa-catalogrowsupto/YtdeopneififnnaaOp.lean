/- What comes in: a table, of bounded bulk. -/
import Derived.Test.YtdeopneififnnaaO
import Derived.Test.YtdeopneififnnaaOo
namespace Go.Proofs.Ytdeopneififnnaa
open Go.ChangeShapes Go.WideShapes Go.ChangeAt Go.RowKit Go.Deep
set_option maxRecDepth 100000
set_option linter.unusedVariables false

theorem cells3 : Try.prog.cellsOf 3 = 1 := by kernel_rfl
theorem cells4 : Try.prog.cellsOf 4 = 1 := by kernel_rfl
theorem cells27 : Try.prog.cellsOf 27 = 1 := by kernel_rfl
theorem cells28 : Try.prog.cellsOf 28 = 1 := by kernel_rfl
theorem cells37 : Try.prog.cellsOf 37 = 2 := by kernel_rfl
theorem cells30 : Try.prog.cellsOf 30 = 5 := by kernel_rfl
theorem cell_of_cells {W : World} {a : Addr} {n : Nat} {cs : List Value} (h : W.cells? 0 a n = some cs) (i : Nat) (hi : i < n) : W.cell? (a.add i) = cs[i]? := (World.cells?_some h).2.2 i hi

theorem bulk_one_le {H : Type} (d : DataW H) : 1 ≤ Rows.uptoBulk d := by
  cases d with
  | lit l => cases l <;> simp [Rows.uptoBulk]
  | nil => simp [Rows.uptoBulk]
  | ptr d => simp [Rows.uptoBulk]
  | slice elems spare => simp [Rows.uptoBulk]
  | agg parts => simp [Rows.uptoBulk]
  | iface t d => simp [Rows.uptoBulk]
  | map entries => simp [Rows.uptoBulk]
  | held h => simp [Rows.uptoBulk]
theorem bulk_part_le {H : Type} {d : DataW H} {l : List (DataW H)} (h : d ∈ l) : Rows.uptoBulk d ≤ Rows.uptoBulkAll l := by
  induction l with
  | nil => cases h
  | cons x r ih =>
    simp only [Rows.uptoBulkAll]
    cases List.mem_cons.1 h with
    | inl e => subst e; omega
    | inr e => have := ih e; omega
theorem bulk_length_le {H : Type} (l : List (DataW H)) : l.length ≤ Rows.uptoBulkAll l := by
  induction l with
  | nil => simp [Rows.uptoBulkAll]
  | cons x r ih => have := bulk_one_le x; simp only [Rows.uptoBulkAll, List.length_cons]; omega
theorem bulk_bound {H : Type} {l : List (DataW H)} (hk : Rows.uptoSmall H l = true) : Rows.uptoBulkAll l ≤ 1048576 := of_decide_eq_true hk

/-- A slice read element by element: what each is, at its place. -/
theorem open_row {H α : Type} {enc : TypeId × Value → H} {W : World} {t e : TypeId} {size : Nat} {fuel : Nat} {v : Value} {d : DataW H} {p : List MemPlace} (ht : Try.prog.underlying t = some (.slice e)) (hc : Try.prog.cellsOf e = size) (hsz : 0 < size) (cells : α → List Value) (hcl : ∀ x, (cells x).length = size) (Ok : α → Nat → Prop)
    (hel : ∀ n cs D Pl, DataW.trod enc Try.prog W 0 (fun _ => true) true n e cs = some (D, Pl) → ∃ x, cs = cells x ∧ Ok x (Rows.uptoBulk D))
    (h : DataW.trod enc Try.prog W 0 (fun _ => true) true fuel t [v] = some (d, p)) :
    ∃ (a : Option Addr) (n c : Nat) (L : List α) (B : List Nat), v = .slice a n c ∧ L.length = n ∧ B.length = n ∧ n ≤ c ∧ (a = none → c = 0) ∧ B.sum + 1 ≤ Rows.uptoBulk d ∧ (∀ (i : Nat) (x : α) (b : Nat), L[i]? = some x → B[i]? = some b → Ok x b) ∧
      (∀ (i : Nat) (x : α), L[i]? = some x → ∃ g off, a = some ⟨g, off, none⟩ ∧ W.rangeAt g (off + i * size) (cells x)) := by
  rcases open_slice ht h with ⟨hcs, hd⟩ | ⟨x, l, c, m, n, D, Pl, hcs, _, hl, _, hm, hx, hels⟩
  · simp only [List.cons.injEq, and_true] at hcs
    subst hcs
    exact ⟨none, 0, 0, [], [], rfl, rfl, rfl, Nat.le_refl _, fun _ => rfl, by simpa using bulk_one_le d, fun i x b h => by simp at h, fun i x h => by simp at h⟩
  · simp only [List.cons.injEq, and_true] at hcs
    subst hcs
    simp only [Prod.mk.injEq] at hx
    obtain ⟨rfl, _⟩ := hx
    simp only [if_true] at hm
    subst hm
    rw [hc] at hels
    have key : ∀ j, j < l → ∃ y : α, W.cells? 0 (x.add (j * size)) size = some (cells y) ∧ Ok y (Rows.uptoBulk (D j)) := by
      intro j hj
      obtain ⟨cs', h1, h2⟩ := hels j (by omega)
      obtain ⟨y, rfl, hy⟩ := hel _ _ _ _ h2
      exact ⟨y, h1, hy⟩
    have hbl : ∀ (q : Nat), ((List.range q).map fun j => Rows.uptoBulk (D j)).sum = Rows.uptoBulkAll ((List.range q).map D) := by
      intro q
      induction (List.range q) with
      | nil => simp [Rows.uptoBulkAll]
      | cons a r ih => simp only [List.map_cons, List.sum_cons, Rows.uptoBulkAll, ih]
    by_cases h0 : l = 0
    · subst h0
      exact ⟨some x, 0, m, [], [], rfl, rfl, rfl, hl, (fun h => by cases h), by simpa using bulk_one_le _, fun i x b h => by simp at h, fun i x h => by simp at h⟩
    · obtain ⟨b, off, spot⟩ := x
      have hspot : spot = none := by
        obtain ⟨y, h1, _⟩ := key 0 (by omega)
        have h2 := cell_of_cells h1 0 hsz
        obtain ⟨u, hu⟩ : ∃ u, (cells y)[0]? = some u := ⟨_, List.getElem?_eq_getElem (by rw [hcl]; exact hsz)⟩
        simpa [Addr.add] using World.cell?_spot (h2.trans hu)
      subst hspot
      have ne : Nonempty α := by obtain ⟨y, _⟩ := key 0 (by omega); exact ⟨y⟩
      refine ⟨some ⟨b, off, none⟩, l, m, (List.range l).map fun j => if hj : j < l then Classical.choose (key j hj) else Classical.choice ne, (List.range l).map fun j => Rows.uptoBulk (D j), rfl, by simp, by simp, hl, (fun h => by cases h), ?_, ?_, ?_⟩
      · rw [hbl]; simp only [Rows.uptoBulk]; omega
      · intro i y q hy hq
        simp only [List.getElem?_map] at hy hq
        by_cases hj : i < l
        · simp only [List.getElem?_range, hj, Option.map_some, Option.some.injEq, dif_pos] at hy hq
          have hs := Classical.choose_spec (key i hj)
          rw [hy, hq] at hs
          exact hs.2
        · rw [List.getElem?_eq_none (by simpa using hj)] at hy
          cases hy
      · intro i y hy
        simp only [List.getElem?_map] at hy
        by_cases hj : i < l
        · simp only [List.getElem?_range, hj, Option.map_some, Option.some.injEq, dif_pos] at hy
          have hs := Classical.choose_spec (key i hj)
          rw [hy] at hs
          refine ⟨b, off, rfl, fun q u hu => ?_⟩
          have hq : q < size := by have := (List.getElem?_eq_some_iff.1 hu).1; rw [hcl] at this; exact this
          have h3 := cell_of_cells hs.1 q hq
          rw [Addr.add_mid, Addr.add_mid] at h3
          rw [h3]
          exact hu
        · rw [List.getElem?_eq_none (by simpa using hj)] at hy
          cases hy
theorem trod_col {H : Type} {enc : TypeId × Value → H} {W : World} (fuel : Nat) (cs : List Value) (d : DataW H) (p : List MemPlace) (h : DataW.trod enc Try.prog W 0 (fun _ => true) true fuel 37 cs = some (d, p)) : ∃ x : ByteArray × Int, cs = [.string x.1, .int .i64 x.2] ∧ True := by
  obtain ⟨xs, n, _, hd, hl, hxl, hf⟩ := DataW.trod_struct Try.underlying37 h
  rw [cells37] at hl
  match cs, hl with
  | [c0, c1], _ =>
    have hxl2 : xs.length = 2 := hxl
    match xs, hxl2 with
    | [y0, y1], _ =>
      have f0 : DataW.trod enc Try.prog W 0 (fun _ => true) true n 9 (([c0, c1].drop 0).take (Try.prog.cellsOf 9)) = [y0, y1][0]? := hf 0 _ rfl
      rw [cells9] at f0
      change DataW.trod enc Try.prog W 0 (fun _ => true) true n 9 [c0] = some y0 at f0
      have f1 : DataW.trod enc Try.prog W 0 (fun _ => true) true n 3 (([c0, c1].drop 1).take (Try.prog.cellsOf 3)) = [y0, y1][1]? := hf 1 _ rfl
      rw [cells3] at f1
      change DataW.trod enc Try.prog W 0 (fun _ => true) true n 3 [c1] = some y1 at f1
      obtain ⟨s, e0, _⟩ := DataW.trod_string Try.underlying9 f0
      obtain ⟨k, e1, _⟩ := DataW.trod_int Try.underlying3 f1
      simp only [List.cons.injEq, and_true] at e0 e1
      subst e0 e1
      exact ⟨(s, k), rfl, trivial⟩
theorem trod_str {H : Type} {enc : TypeId × Value → H} {W : World} (fuel : Nat) (cs : List Value) (d : DataW H) (p : List MemPlace) (h : DataW.trod enc Try.prog W 0 (fun _ => true) true fuel 9 cs = some (d, p)) : ∃ x : ByteArray, cs = [.string x] ∧ True := by
  obtain ⟨s, e0, _⟩ := DataW.trod_string Try.underlying9 h
  exact ⟨s, e0, trivial⟩
theorem types30 : Try.prog.cellTypes Try.prog.depth 30 = some [3, 9, 27, 28, 4] := by kernel_rfl
theorem cell_slice {W : World} {base : Nat} {t e : TypeId} {a : Option Addr} {n c : Nat} (ht : Try.prog.underlying t = some (.slice e)) (h : Cell.okWide Try.prog W .any base t (.slice a n c)) : Sh (fun _ => True) W a n c := by
  simp only [Cell.okWide, ht] at h
  cases a with
  | none =>
    simp only [Cell.ok, ht] at h
    rcases n with _ | n <;> rcases c with _ | c <;> simp_all [Sh]
  | some x =>
    simp only [Cell.ok, ht] at h
    obtain ⟨_, _, _, hs, row, cells, hsh, _⟩ := h
    obtain ⟨b, off, spot⟩ := x
    simp only at hs
    subst hs
    refine .inr ⟨b, off, rfl, trivial, ?_⟩
    unfold World.shape? at hsh
    rcases Nat.lt_or_ge b W.heap.size with hb | hb
    · exact hb
    · simp [Array.getElem?_eq_none hb] at hsh
theorem open_tab {H : Type} {enc : TypeId × Value → H} {W : World} {base : Nat} {v : Value} {d : DataW H} {p : List MemPlace} (hok : Value.okWide Try.prog W .any base 30 v) (h : DataW.Trod enc Try.prog W 0 (fun _ => true) true 30 v d p) (hs : Rows.uptoBulk d ≤ 1048576) : ∃ t : Tb, v = t.agg ∧ TabIn (fun _ => True) W t := by
  simp only [Value.okWide, Try.underlying30] at hok
  obtain ⟨cs, rfl, hn, ts, hts, _, hcell⟩ := hok
  rw [cells30] at hn
  rw [types30] at hts
  cases hts
  obtain ⟨fuel, hf⟩ := h
  match cs, hn with
  | ⟨[c0, c1, c2, c3, c4]⟩, _ =>
    have k2 : Cell.okWide Try.prog W .any base 27 c2 := by
      obtain ⟨u, hu, hk⟩ := hcell 2 c2 rfl
      have : u = 27 := by simpa using hu.symm
      rw [← this]; exact hk
    have k3 : Cell.okWide Try.prog W .any base 28 c3 := by
      obtain ⟨u, hu, hk⟩ := hcell 3 c3 rfl
      have : u = 28 := by simpa using hu.symm
      rw [← this]; exact hk
    obtain ⟨xs, n, _, hd, hl, hxl, hg⟩ := DataW.trod_struct Try.underlying30 hf
    have hxl5 : xs.length = 5 := hxl
    match xs, hxl5 with
    | [y0, y1, y2, y3, y4], _ =>
      have f0 : DataW.trod enc Try.prog W 0 (fun _ => true) true n 3 (([c0, c1, c2, c3, c4].drop 0).take (Try.prog.cellsOf 3)) = [y0, y1, y2, y3, y4][0]? := hg 0 _ rfl
      rw [cells3] at f0
      change DataW.trod enc Try.prog W 0 (fun _ => true) true n 3 [c0] = some y0 at f0
      have f1 : DataW.trod enc Try.prog W 0 (fun _ => true) true n 9 (([c0, c1, c2, c3, c4].drop 1).take (Try.prog.cellsOf 9)) = [y0, y1, y2, y3, y4][1]? := hg 1 _ rfl
      rw [cells9] at f1
      change DataW.trod enc Try.prog W 0 (fun _ => true) true n 9 [c1] = some y1 at f1
      have f2 : DataW.trod enc Try.prog W 0 (fun _ => true) true n 27 (([c0, c1, c2, c3, c4].drop 2).take (Try.prog.cellsOf 27)) = [y0, y1, y2, y3, y4][2]? := hg 2 _ rfl
      rw [cells27] at f2
      change DataW.trod enc Try.prog W 0 (fun _ => true) true n 27 [c2] = some y2 at f2
      have f3 : DataW.trod enc Try.prog W 0 (fun _ => true) true n 28 (([c0, c1, c2, c3, c4].drop 3).take (Try.prog.cellsOf 28)) = [y0, y1, y2, y3, y4][3]? := hg 3 _ rfl
      rw [cells28] at f3
      change DataW.trod enc Try.prog W 0 (fun _ => true) true n 28 [c3] = some y3 at f3
      have f4 : DataW.trod enc Try.prog W 0 (fun _ => true) true n 4 (([c0, c1, c2, c3, c4].drop 4).take (Try.prog.cellsOf 4)) = [y0, y1, y2, y3, y4][4]? := hg 4 _ rfl
      rw [cells4] at f4
      change DataW.trod enc Try.prog W 0 (fun _ => true) true n 4 [c4] = some y4 at f4
      have hd1 : d = .agg [y0.1, y1.1, y2.1, y3.1, y4.1] := (Prod.mk.inj hd).1
      have hb2 : Rows.uptoBulk y2.1 ≤ 1048576 := by
        rw [hd1] at hs
        simp only [Rows.uptoBulk, Rows.uptoBulkAll] at hs
        omega
      have hb3 : Rows.uptoBulk y3.1 ≤ 1048576 := by
        rw [hd1] at hs
        simp only [Rows.uptoBulk, Rows.uptoBulkAll] at hs
        omega
      obtain ⟨k, e0, hk64⟩ := DataW.trod_int Try.underlying3 f0
      obtain ⟨s, e1, _⟩ := DataW.trod_string Try.underlying9 f1
      obtain ⟨b, e4, _⟩ := DataW.trod_bool Try.underlying4 f4
      obtain ⟨ca, cn, cc, L, B, e2, hL, hB, _, _, hS, _, hR⟩ := open_row (d := y2.1) (p := y2.2) Try.underlying27 cells37 (by omega) (fun x : ByteArray × Int => [.string x.1, .int .i64 x.2]) (fun _ => rfl) (fun _ _ => True) (fun n cs D Pl h => trod_col n cs D Pl h) f2
      obtain ⟨ka, kn, kc, K, B2, e3, hK, hB2, _, _, hS2, _, hR2⟩ := open_row (d := y3.1) (p := y3.2) Try.underlying28 cells9 (by omega) (fun x : ByteArray => [.string x]) (fun _ => rfl) (fun _ _ => True) (fun n cs D Pl h => trod_str n cs D Pl h) f3
      simp only [List.cons.injEq, and_true] at e0 e1 e4
      subst e0 e1 e2 e3 e4
      have hn2 : cn ≤ Rows.uptoBulk y2.1 := by
        rcases open_slice Try.underlying27 f2 with ⟨hcs, _⟩ | ⟨x, l, c, m, n', D, Pl, hcs, _, hl, _, hm, hx, _⟩
        · simp only [List.cons.injEq, Value.slice.injEq, and_true] at hcs
          omega
        · simp only [List.cons.injEq, Value.slice.injEq, and_true] at hcs
          obtain ⟨_, rfl, _⟩ := hcs
          have hx1 := (Prod.mk.inj hx).1
          rw [hx1]
          have := bulk_length_le ((List.range cn).map D)
          simp only [Rows.uptoBulk, List.length_map, List.length_range] at this ⊢
          omega
      have hn3 : kn ≤ Rows.uptoBulk y3.1 := by
        rcases open_slice Try.underlying28 f3 with ⟨hcs, _⟩ | ⟨x, l, c, m, n', D, Pl, hcs, _, hl, _, hm, hx, _⟩
        · simp only [List.cons.injEq, Value.slice.injEq, and_true] at hcs
          omega
        · simp only [List.cons.injEq, Value.slice.injEq, and_true] at hcs
          obtain ⟨_, rfl, _⟩ := hcs
          have hx1 := (Prod.mk.inj hx).1
          rw [hx1]
          have := bulk_length_le ((List.range kn).map D)
          simp only [Rows.uptoBulk, List.length_map, List.length_range] at this ⊢
          omega
      refine ⟨⟨k, s, ca, cn, cc, L.map (fun x => ⟨x.1, x.2⟩), ka, kn, kc, K, b⟩, rfl, ?_, by rw [List.length_map]; exact hL, by dsimp only; omega, cell_slice Try.underlying27 k2, ?_, hK, by dsimp only; omega, cell_slice Try.underlying28 k3, ?_⟩
      · intro i x hx
        rw [List.getElem?_map] at hx
        obtain ⟨z, hz, rfl⟩ := Option.map_eq_some_iff.1 hx
        obtain ⟨g, off, ha, hr⟩ := hR i z hz
        exact ⟨g, off, ha, trivial, by have := hr 0 _ rfl; simpa using this, hr 1 _ rfl⟩
      · intro i x hx
        obtain ⟨g, off, ha, hr⟩ := hR2 i x hx
        exact ⟨g, off, ha, trivial, by have := hr 0 _ rfl; simpa using this⟩
      · exact in64_of hk64.2
end Go.Proofs.Ytdeopneififnnaa
