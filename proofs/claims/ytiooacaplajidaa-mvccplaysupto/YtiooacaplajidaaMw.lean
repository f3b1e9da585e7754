/- Calls that come in, by their bulk. -/
import Derived.Test.YtiooacaplajidaaMv
namespace Go.Proofs.Ytiooacaplajidaa
open Go.ChangeShapes Go.WideShapes Go.ChangeAt Go.RowKit Go.Deep
set_option maxRecDepth 100000
set_option linter.unusedVariables false

theorem cell_of_cells {W : World} {a : Addr} {n : Nat} {cs : List Value} (h : W.cells? 0 a n = some cs) (i : Nat) (hi : i < n) : W.cell? (a.add i) = cs[i]? := (World.cells?_some h).2.2 i hi

theorem bulk_one_le {H : Type} (d : DataW H) : 1 ≤ Rows.uptoBulk d := by
  cases d with
  | lit l => cases l <;> simp [Rows.uptoBulk]
  | nil => simp [Rows.uptoBulk]
  | ptr d => simp [Rows.uptoBulk]
  | slice elems spare => simp [Rows.uptoBulk]
  | agg parts => simp [Rows.uptoBulk]
  | iface t d => simp [Rows.uptoBulk]
  | map entries => simp [Rows.uptoBulk]
  | held h => simp [Rows.uptoBulk]
theorem bulk_part_le {H : Type} {d : DataW H} {l : List (DataW H)} (h : d ∈ l) : Rows.uptoBulk d ≤ Rows.uptoBulkAll l := by
  induction l with
  | nil => cases h
  | cons x r ih =>
    simp only [Rows.uptoBulkAll]
    cases List.mem_cons.1 h with
    | inl e => subst e; omega
    | inr e => have := ih e; omega
theorem bulk_length_le {H : Type} (l : List (DataW H)) : l.length ≤ Rows.uptoBulkAll l := by
  induction l with
  | nil => simp [Rows.uptoBulkAll]
  | cons x r ih => have := bulk_one_le x; simp only [Rows.uptoBulkAll, List.length_cons]; omega
theorem bulk_bound {H : Type} {l : List (DataW H)} (hk : Rows.uptoSmall H l = true) : Rows.uptoBulkAll l ≤ 1048576 := of_decide_eq_true hk

/-- A slice read element by element: what each is, at its place. -/
theorem open_row {H α : Type} {enc : TypeId × Value → H} {W : World} {t e : TypeId} {size : Nat} {fuel : Nat} {v : Value} {d : DataW H} {p : List MemPlace} (ht : Try.prog.underlying t = some (.slice e)) (hc : Try.prog.cellsOf e = size) (hsz : 0 < size) (cells : α → List Value) (hcl : ∀ x, (cells x).length = size) (Ok : α → Nat → Prop)
    (hel : ∀ n cs D Pl, DataW.trod enc Try.prog W 0 (fun _ => true) true n e cs = some (D, Pl) → ∃ x, cs = cells x ∧ Ok x (Rows.uptoBulk D))
    (h : DataW.trod enc Try.prog W 0 (fun _ => true) true fuel t [v] = some (d, p)) :
    ∃ (a : Option Addr) (n c : Nat) (L : List α) (B : List Nat), v = .slice a n c ∧ L.length = n ∧ B.length = n ∧ n ≤ c ∧ (a = none → c = 0) ∧ B.sum + 1 ≤ Rows.uptoBulk d ∧ (∀ (i : Nat) (x : α) (b : Nat), L[i]? = some x → B[i]? = some b → Ok x b) ∧
      (∀ (i : Nat) (x : α), L[i]? = some x → ∃ g off, a = some ⟨g, off, none⟩ ∧ W.rangeAt g (off + i * size) (cells x)) := by
  rcases open_slice ht h with ⟨hcs, hd⟩ | ⟨x, l, c, m, n, D, Pl, hcs, _, hl, _, hm, hx, hels⟩
  · simp only [List.cons.injEq, and_true] at hcs
    subst hcs
    exact ⟨none, 0, 0, [], [], rfl, rfl, rfl, Nat.le_refl _, fun _ => rfl, by simpa using bulk_one_le d, fun i x b h => by simp at h, fun i x h => by simp at h⟩
  · simp only [List.cons.injEq, and_true] at hcs
    subst hcs
    simp only [Prod.mk.injEq] at hx
    obtain ⟨rfl, _⟩ := hx
    simp only [if_true] at hm
    subst hm
    rw [hc] at hels
    have key : ∀ j, j < l → ∃ y : α, W.cells? 0 (x.add (j * size)) size = some (cells y) ∧ Ok y (Rows.uptoBulk (D j)) := by
      intro j hj
      obtain ⟨cs', h1, h2⟩ := hels j (by omega)
      obtain ⟨y, rfl, hy⟩ := hel _ _ _ _ h2
      exact ⟨y, h1, hy⟩
    have hbl : ∀ (q : Nat), ((List.range q).map fun j => Rows.uptoBulk (D j)).sum = Rows.uptoBulkAll ((List.range q).map D) := by
      intro q
      induction (List.range q) with
      | nil => simp [Rows.uptoBulkAll]
      | cons a r ih => simp only [List.map_cons, List.sum_cons, Rows.uptoBulkAll, ih]
    by_cases h0 : l = 0
    · subst h0
      exact ⟨some x, 0, m, [], [], rfl, rfl, rfl, hl, (fun h => by cases h), by simpa using bulk_one_le _, fun i x b h => by simp at h, fun i x h => by simp at h⟩
    · obtain ⟨b, off, spot⟩ := x
      have hspot : spot = none := by
        obtain ⟨y, h1, _⟩ := key 0 (by omega)
        have h2 := cell_of_cells h1 0 hsz
        obtain ⟨u, hu⟩ : ∃ u, (cells y)[0]? = some u := ⟨_, List.getElem?_eq_getElem (by rw [hcl]; exact hsz)⟩
        simpa [Addr.add] using World.cell?_spot (h2.trans hu)
      subst hspot
      have ne : Nonempty α := by obtain ⟨y, _⟩ := key 0 (by omega); exact ⟨y⟩
      refine ⟨some ⟨b, off, none⟩, l, m, (List.range l).map fun j => if hj : j < l then Classical.choose (key j hj) else Classical.choice ne, (List.range l).map fun j => Rows.uptoBulk (D j), rfl, by simp, by simp, hl, (fun h => by cases h), ?_, ?_, ?_⟩
      · rw [hbl]; simp only [Rows.uptoBulk]; omega
      · intro i y q hy hq
        simp only [List.getElem?_map] at hy hq
        by_cases hj : i < l
        · simp only [List.getElem?_range, hj, Option.map_some, Option.some.injEq, dif_pos] at hy hq
          have hs := Classical.choose_spec (key i hj)
          rw [hy, hq] at hs
          exact hs.2
        · rw [List.getElem?_eq_none (by simpa using hj)] at hy
          cases hy
      · intro i y hy
        simp only [List.getElem?_map] at hy
        by_cases hj : i < l
        · simp only [List.getElem?_range, hj, Option.map_some, Option.some.injEq, dif_pos] at hy
          have hs := Classical.choose_spec (key i hj)
          rw [hy] at hs
          refine ⟨b, off, rfl, fun q u hu => ?_⟩
          have hq : q < size := by have := (List.getElem?_eq_some_iff.1 hu).1; rw [hcl] at this; exact this
          have h3 := cell_of_cells hs.1 q hq
          rw [Addr.add_mid, Addr.add_mid] at h3
          rw [h3]
          exact hu
        · rw [List.getElem?_eq_none (by simpa using hj)] at hy
          cases hy

structure OpR where
  kind : Int
  txn : Int
  ka : Option Addr
  kn : Nat
  kc : Nat
  K : List ByteArray
  n : Int
def OpR.cells (o : OpR) : List Value := [.int .i64 o.kind, .int .i64 o.txn, .slice o.ka o.kn o.kc, .int .i64 o.n]
theorem cells33 : Try.prog.cellsOf 33 = 4 := by kernel_rfl
theorem cells3 : Try.prog.cellsOf 3 = 1 := by kernel_rfl
theorem cells31 : Try.prog.cellsOf 31 = 1 := by kernel_rfl
theorem trod_strs {H : Type} {enc : TypeId × Value → H} {W : World} (fuel : Nat) (v : Value) (d : DataW H) (p : List MemPlace) (h : DataW.trod enc Try.prog W 0 (fun _ => true) true fuel 31 [v] = some (d, p)) : ∃ (a : Option Addr) (n c : Nat) (K : List ByteArray), v = .slice a n c ∧ K.length = n ∧ StrsIn (fun k => k < W.heap.size) W a K ∧ n ≤ Rows.uptoBulk d ∧ (a = none → c = 0) := by
  rcases open_strings Try.underlying31 Try.underlying9 cells9 h with ⟨hcs, _⟩ | ⟨x, l, c, zs, hcs, _, hl, _, hlen, hx, hel, hwf⟩
  · simp only [List.cons.injEq, and_true] at hcs
    subst hcs
    exact ⟨none, 0, 0, [], rfl, rfl, (fun k v hk => by simp at hk), Nat.zero_le _, fun _ => rfl⟩
  · simp only [List.cons.injEq, and_true] at hcs
    subst hcs
    simp only [Prod.mk.injEq] at hx
    obtain ⟨rfl, _⟩ := hx
    simp only [if_true] at hlen
    have hll : (zs.take l).length = l := by rw [List.length_take]; omega
    refine ⟨some x, l, c, zs.take l, rfl, hll, ?_, ?_, fun h => by cases h⟩
    · intro k v hk
      have hk1 : k < l := by have := (List.getElem?_eq_some_iff.1 hk).1; omega
      rw [List.getElem?_take_of_lt hk1] at hk
      have h2 := hel k (by omega)
      obtain ⟨b, off, spot⟩ := x
      have hspot : spot = none := by have h0 := hel 0 (by omega); simpa [Addr.add] using World.cell?_spot h0
      subst hspot
      rw [Addr.add_mid] at h2
      refine ⟨b, off, rfl, World.block_lt_of_cell? W _ h2, ?_, ?_⟩
      · rw [h2, List.getD_eq_getElem?_getD, hk]
        rfl
      · exact hwf v (List.mem_of_getElem? hk)
    · have h1 := bulk_length_le (strs (zs.take l) : List (DataW H))
      have h2 : (strs (zs.take l) : List (DataW H)).length = l := by simp [strs]; omega
      simp only [Rows.uptoBulk]
      omega
theorem trod_op {H : Type} {enc : TypeId × Value → H} {W : World} (fuel : Nat) (cs : List Value) (d : DataW H) (p : List MemPlace) (h : DataW.trod enc Try.prog W 0 (fun _ => true) true fuel 33 cs = some (d, p)) : ∃ o : OpR, cs = o.cells ∧ (o.K.length = o.kn ∧ StrsIn (fun k => k < W.heap.size) W o.ka o.K ∧ In64 o.txn ∧ o.kn + 1 ≤ Rows.uptoBulk d ∧ (o.ka = none → o.kc = 0)) := by
  obtain ⟨xs, n, _, hd, hl, hxl, hf⟩ := DataW.trod_struct Try.underlying33 h
  rw [cells33] at hl
  match cs, hl with
  | [c0, c1, c2, c3], _ =>
    have hxl4 : xs.length = 4 := hxl
    match xs, hxl4 with
    | [y0, y1, y2, y3], _ =>
      have f0 : DataW.trod enc Try.prog W 0 (fun _ => true) true n 3 (([c0, c1, c2, c3].drop 0).take (Try.prog.cellsOf 3)) = [y0, y1, y2, y3][0]? := hf 0 _ rfl
      rw [cells3] at f0
      change DataW.trod enc Try.prog W 0 (fun _ => true) true n 3 [c0] = some y0 at f0
      have f1 : DataW.trod enc Try.prog W 0 (fun _ => true) true n 2 (([c0, c1, c2, c3].drop 1).take (Try.prog.cellsOf 2)) = [y0, y1, y2, y3][1]? := hf 1 _ rfl
      rw [cells2] at f1
      change DataW.trod enc Try.prog W 0 (fun _ => true) true n 2 [c1] = some y1 at f1
      have f2 : DataW.trod enc Try.prog W 0 (fun _ => true) true n 31 (([c0, c1, c2, c3].drop 2).take (Try.prog.cellsOf 31)) = [y0, y1, y2, y3][2]? := hf 2 _ rfl
      rw [cells31] at f2
      change DataW.trod enc Try.prog W 0 (fun _ => true) true n 31 [c2] = some y2 at f2
      have f3 : DataW.trod enc Try.prog W 0 (fun _ => true) true n 2 (([c0, c1, c2, c3].drop 3).take (Try.prog.cellsOf 2)) = [y0, y1, y2, y3][3]? := hf 3 _ rfl
      rw [cells2] at f3
      change DataW.trod enc Try.prog W 0 (fun _ => true) true n 2 [c3] = some y3 at f3
      have hd1 : d = .agg [y0.1, y1.1, y2.1, y3.1] := (Prod.mk.inj hd).1
      obtain ⟨k, e0, _⟩ := DataW.trod_int Try.underlying3 f0
      obtain ⟨tx, e1, _, hw⟩ := DataW.trod_int Try.underlying2 f1
      obtain ⟨q, e3, _⟩ := DataW.trod_int Try.underlying2 f3
      obtain ⟨ka, kn, kc, K, e2, hK, hS, hbk, hkc⟩ := trod_strs n c2 y2.1 y2.2 f2
      simp only [List.cons.injEq, and_true] at e0 e1 e3
      subst e0 e1 e2 e3
      refine ⟨⟨k, tx, ka, kn, kc, K, q⟩, rfl, hK, hS, in64_of hw, ?_, hkc⟩
      rw [hd1]
      simp only [Rows.uptoBulk, Rows.uptoBulkAll]
      have := bulk_one_le y0.1
      show kn + 1 ≤ _
      omega
/-- A script. -/
def OpsIn (w : World) (a : Option Addr) (L : List OpR) : Prop := ∀ (i : Nat) (o : OpR), L[i]? = some o → ∃ g off, a = some ⟨g, off, none⟩ ∧ g < w.heap.size ∧ w.cell? ⟨g, off + i * 4, none⟩ = some (.int .i64 o.kind) ∧ w.cell? ⟨g, off + i * 4 + 1, none⟩ = some (.int .i64 o.txn) ∧ w.cell? ⟨g, off + i * 4 + 2, none⟩ = some (.slice o.ka o.kn o.kc) ∧ w.cell? ⟨g, off + i * 4 + 3, none⟩ = some (.int .i64 o.n) ∧ o.K.length = o.kn ∧ StrsIn (fun k => k < w.heap.size) w o.ka o.K ∧ In64 o.txn ∧ (o.ka = none → o.kc = 0)
def qs (L : List OpR) (j : Nat) : Nat := ((L.take j).map OpR.kn).sum
theorem qs_succ {L : List OpR} {j : Nat} {o : OpR} (h : L[j]? = some o) : qs L (j + 1) = qs L j + o.kn := by
  unfold qs
  rw [List.take_add_one, h, List.map_append, List.sum_append]
  simp
theorem qs_le (L : List OpR) (j : Nat) : qs L j ≤ qs L L.length := by
  unfold qs
  rw [List.take_length]
  conv => rhs; rw [← List.take_append_drop j L]
  rw [List.map_append, List.sum_append]
  omega
theorem open_ops {H : Type} {enc : TypeId × Value → H} {W : World} {v : Value} {d : DataW H} {p : List MemPlace} (h : ∃ fuel, DataW.trod enc Try.prog W 0 (fun _ => true) true fuel 22 [v] = some (d, p)) (hs : Rows.uptoBulk d ≤ 1048576) :
    ∃ (a : Option Addr) (n c : Nat) (L : List OpR), v = .slice a n c ∧ L.length = n ∧ OpsIn W a L ∧ n ≤ 1048576 ∧ qs L L.length ≤ 1048576 := by
  obtain ⟨fuel, hf⟩ := h
  obtain ⟨a, n, c, L, B, hv, hL, hB, _, _, hS, hOk, hR⟩ := open_row (d := d) (p := p) Try.underlying22 cells33 (by omega) OpR.cells (fun _ => rfl) (fun o b => o.K.length = o.kn ∧ StrsIn (fun k => k < W.heap.size) W o.ka o.K ∧ In64 o.txn ∧ o.kn + 1 ≤ b ∧ (o.ka = none → o.kc = 0)) (fun n cs D Pl h => trod_op n cs D Pl h) hf
  have hsum : ∀ (L : List OpR) (B : List Nat), L.length = B.length → (∀ (i : Nat) (o : OpR) (b : Nat), L[i]? = some o → B[i]? = some b → o.kn + 1 ≤ b) → (L.map OpR.kn).sum + L.length ≤ B.sum := by
    intro L
    induction L with
    | nil => intro B _ _; simp
    | cons x L ih =>
      intro B hl hi
      cases B with
      | nil => simp at hl
      | cons b B =>
        have h1 := ih B (by simpa using hl) (fun i o b ho hb => hi (i + 1) o b (by simpa using ho) (by simpa using hb))
        have h2 := hi 0 x b rfl rfl
        simp only [List.map_cons, List.sum_cons, List.length_cons]
        omega
  have hq := hsum L B (by omega) (fun i o b ho hb => (hOk i o b ho hb).2.2.2.1)
  refine ⟨a, n, c, L, hv, hL, ?_, by omega, by unfold qs; rw [List.take_length]; omega⟩
  intro i o ho
  obtain ⟨g, off, ha, hr⟩ := hR i o ho
  obtain ⟨b, hb⟩ : ∃ b, B[i]? = some b := ⟨_, List.getElem?_eq_getElem (by have := (List.getElem?_eq_some_iff.1 ho).1; omega)⟩
  obtain ⟨q1, q2, q3, _, q4⟩ := hOk i o b ho hb
  have c0 : W.cell? ⟨g, off + i * 4, none⟩ = some (.int .i64 o.kind) := by have := hr 0 _ rfl; simpa using this
  exact ⟨g, off, ha, World.block_lt_of_cell? W _ c0, c0, hr 1 _ rfl, hr 2 _ rfl, hr 3 _ rfl, q1, q2, q3, q4⟩
end Go.Proofs.Ytiooacaplajidaa
