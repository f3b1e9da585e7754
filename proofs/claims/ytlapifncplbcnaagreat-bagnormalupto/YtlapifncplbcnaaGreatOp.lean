/- What comes in: facts. -/
import Derived.Test.YtlapifncplbcnaaGreatMj
import Derived.ProofKit
import Derived.OpenShut
import Derived.ShutString
import Derived.ChangeOld
import Derived.SizedLaws
import Derived.Deep.Grids
import Derived.SliceStrings
namespace Go.Proofs.YtlapifncplbcnaaGreat
open Go.ChangeShapes Go.WideShapes Go.ChangeAt Go.RowKit Go.Deep
set_option maxRecDepth 100000
set_option linter.unusedVariables false

def cellsV (v : Val) : List Value := [.int .i64 v.kind, .int .i64 v.num, .string (strOf v.text)]
def Wf (R : List Val) : Prop := ∀ x ∈ R, -9223372036854775808 ≤ x.num ∧ x.num < 9223372036854775808
theorem own : ownKnob Tryz.prog.godebug = none := by kernel_rfl
theorem laidOut : laidOutB Tryz.prog = true := by kernel_rfl
theorem cells9 : Tryz.prog.cellsOf 9 = 1 := by kernel_rfl
theorem cell_of_cells {W : World} {a : Addr} {n : Nat} {cs : List Value} (h : W.cells? 0 a n = some cs) (i : Nat) (hi : i < n) : W.cell? (a.add i) = cs[i]? := (World.cells?_some h).2.2 i hi
theorem bulk_one_le {H : Type} (d : DataW H) : 1 ≤ Rows.uptoBulk d := by
  cases d with
  | lit l => cases l <;> simp [Rows.uptoBulk]
  | nil => simp [Rows.uptoBulk]
  | ptr d => simp [Rows.uptoBulk]
  | slice elems spare => simp [Rows.uptoBulk]
  | agg parts => simp [Rows.uptoBulk]
  | iface t d => simp [Rows.uptoBulk]
  | map entries => simp [Rows.uptoBulk]
  | held h => simp [Rows.uptoBulk]
theorem bulk_part_le {H : Type} {d : DataW H} {l : List (DataW H)} (h : d ∈ l) : Rows.uptoBulk d ≤ Rows.uptoBulkAll l := by
  induction l with
  | nil => cases h
  | cons x r ih =>
    simp only [Rows.uptoBulkAll]
    cases List.mem_cons.1 h with
    | inl e => subst e; omega
    | inr e => have := ih e; omega
theorem bulk_length_le {H : Type} (l : List (DataW H)) : l.length ≤ Rows.uptoBulkAll l := by
  induction l with
  | nil => simp [Rows.uptoBulkAll]
  | cons x r ih => have := bulk_one_le x; simp only [Rows.uptoBulkAll, List.length_cons]; omega
theorem bulk_bound {H : Type} {l : List (DataW H)} (hk : Rows.uptoSmall H l = true) : Rows.uptoBulkAll l ≤ 1048576 := of_decide_eq_true hk

/-- A slice read element by element: what each is, at its place. -/
theorem open_row {H α : Type} {enc : TypeId × Value → H} {W : World} {t e : TypeId} {size : Nat} {fuel : Nat} {v : Value} {d : DataW H} {p : List MemPlace} (ht : Tryz.prog.underlying t = some (.slice e)) (hc : Tryz.prog.cellsOf e = size) (hsz : 0 < size) (cells : α → List Value) (hcl : ∀ x, (cells x).length = size) (Ok : α → Nat → Prop)
    (hel : ∀ n cs D Pl, DataW.trod enc Tryz.prog W 0 (fun _ => true) true n e cs = some (D, Pl) → ∃ x, cs = cells x ∧ Ok x (Rows.uptoBulk D))
    (h : DataW.trod enc Tryz.prog W 0 (fun _ => true) true fuel t [v] = some (d, p)) :
    ∃ (a : Option Addr) (n c : Nat) (L : List α) (B : List Nat), v = .slice a n c ∧ L.length = n ∧ B.length = n ∧ n ≤ c ∧ (a = none → c = 0) ∧ B.sum + 1 ≤ Rows.uptoBulk d ∧ (∀ (i : Nat) (x : α) (b : Nat), L[i]? = some x → B[i]? = some b → Ok x b) ∧
      (∀ (i : Nat) (x : α), L[i]? = some x → ∃ g off, a = some ⟨g, off, none⟩ ∧ W.rangeAt g (off + i * size) (cells x)) := by
  rcases open_slice ht h with ⟨hcs, hd⟩ | ⟨x, l, c, m, n, D, Pl, hcs, _, hl, _, hm, hx, hels⟩
  · simp only [List.cons.injEq, and_true] at hcs
    subst hcs
    exact ⟨none, 0, 0, [], [], rfl, rfl, rfl, Nat.le_refl _, fun _ => rfl, by simpa using bulk_one_le d, fun i x b h => by simp at h, fun i x h => by simp at h⟩
  · simp only [List.cons.injEq, and_true] at hcs
    subst hcs
    simp only [Prod.mk.injEq] at hx
    obtain ⟨rfl, _⟩ := hx
    simp only [if_true] at hm
    subst hm
    rw [hc] at hels
    have key : ∀ j, j < l → ∃ y : α, W.cells? 0 (x.add (j * size)) size = some (cells y) ∧ Ok y (Rows.uptoBulk (D j)) := by
      intro j hj
      obtain ⟨cs', h1, h2⟩ := hels j (by omega)
      obtain ⟨y, rfl, hy⟩ := hel _ _ _ _ h2
      exact ⟨y, h1, hy⟩
    have hbl : ∀ (q : Nat), ((List.range q).map fun j => Rows.uptoBulk (D j)).sum = Rows.uptoBulkAll ((List.range q).map D) := by
      intro q
      induction (List.range q) with
      | nil => simp [Rows.uptoBulkAll]
      | cons a r ih => simp only [List.map_cons, List.sum_cons, Rows.uptoBulkAll, ih]
    by_cases h0 : l = 0
    · subst h0
      exact ⟨some x, 0, m, [], [], rfl, rfl, rfl, hl, (fun h => by cases h), by simpa using bulk_one_le _, fun i x b h => by simp at h, fun i x h => by simp at h⟩
    · obtain ⟨b, off, spot⟩ := x
      have hspot : spot = none := by
        obtain ⟨y, h1, _⟩ := key 0 (by omega)
        have h2 := cell_of_cells h1 0 hsz
        obtain ⟨u, hu⟩ : ∃ u, (cells y)[0]? = some u := ⟨_, List.getElem?_eq_getElem (by rw [hcl]; exact hsz)⟩
        simpa [Addr.add] using World.cell?_spot (h2.trans hu)
      subst hspot
      have ne : Nonempty α := by obtain ⟨y, _⟩ := key 0 (by omega); exact ⟨y⟩
      refine ⟨some ⟨b, off, none⟩, l, m, (List.range l).map fun j => if hj : j < l then Classical.choose (key j hj) else Classical.choice ne, (List.range l).map fun j => Rows.uptoBulk (D j), rfl, by simp, by simp, hl, (fun h => by cases h), ?_, ?_, ?_⟩
      · rw [hbl]; simp only [Rows.uptoBulk]; omega
      · intro i y q hy hq
        simp only [List.getElem?_map] at hy hq
        by_cases hj : i < l
        · simp only [List.getElem?_range, hj, Option.map_some, Option.some.injEq, dif_pos] at hy hq
          have hs := Classical.choose_spec (key i hj)
          rw [hy, hq] at hs
          exact hs.2
        · rw [List.getElem?_eq_none (by simpa using hj)] at hy
          cases hy
      · intro i y hy
        simp only [List.getElem?_map] at hy
        by_cases hj : i < l
        · simp only [List.getElem?_range, hj, Option.map_some, Option.some.injEq, dif_pos] at hy
          have hs := Classical.choose_spec (key i hj)
          rw [hy] at hs
          refine ⟨b, off, rfl, fun q u hu => ?_⟩
          have hq : q < size := by have := (List.getElem?_eq_some_iff.1 hu).1; rw [hcl] at this; exact this
          have h3 := cell_of_cells hs.1 q hq
          rw [Addr.add_mid, Addr.add_mid] at h3
          rw [h3]
          exact hu
        · rw [List.getElem?_eq_none (by simpa using hj)] at hy
          cases hy

theorem cells2' : Tryz.prog.cellsOf 2 = 1 := by kernel_rfl
theorem cells3' : Tryz.prog.cellsOf 3 = 1 := by kernel_rfl
theorem cellsRow : Tryz.prog.cellsOf 45 = 1 := by kernel_rfl
theorem cellsVal : Tryz.prog.cellsOf 49 = 3 := by kernel_rfl
theorem strOf_back (s : ByteArray) : strOf s.data.toList = s := by simp [strOf]
theorem trod_val {H : Type} {enc : TypeId × Value → H} {W : World} (fuel : Nat) (cs : List Value) (d : DataW H) (p : List MemPlace) (h : DataW.trod enc Tryz.prog W 0 (fun _ => true) true fuel 49 cs = some (d, p)) : ∃ x : Val, cs = cellsV x ∧ 1 ≤ Rows.uptoBulk d ∧ -9223372036854775808 ≤ x.num ∧ x.num < 9223372036854775808 := by
  obtain ⟨xs, n, _, hd, hl, hxl, hf⟩ := DataW.trod_struct Tryz.underlying49 h
  rw [cellsVal] at hl
  match cs, hl with
  | [c0, c1, c2], _ =>
    have hxl3 : xs.length = 3 := hxl
    match xs, hxl3 with
    | [y0, y1, y2], _ =>
      have f0 : DataW.trod enc Tryz.prog W 0 (fun _ => true) true n 3 (([c0, c1, c2].drop 0).take (Tryz.prog.cellsOf 3)) = [y0, y1, y2][0]? := hf 0 _ rfl
      rw [cells3'] at f0
      change DataW.trod enc Tryz.prog W 0 (fun _ => true) true n 3 [c0] = some y0 at f0
      have f1 : DataW.trod enc Tryz.prog W 0 (fun _ => true) true n 2 (([c0, c1, c2].drop 1).take (Tryz.prog.cellsOf 2)) = [y0, y1, y2][1]? := hf 1 _ rfl
      rw [cells2'] at f1
      change DataW.trod enc Tryz.prog W 0 (fun _ => true) true n 2 [c1] = some y1 at f1
      have f2 : DataW.trod enc Tryz.prog W 0 (fun _ => true) true n 9 (([c0, c1, c2].drop 2).take (Tryz.prog.cellsOf 9)) = [y0, y1, y2][2]? := hf 2 _ rfl
      rw [cells9] at f2
      change DataW.trod enc Tryz.prog W 0 (fun _ => true) true n 9 [c2] = some y2 at f2
      obtain ⟨k, e0, hk⟩ := DataW.trod_int Tryz.underlying3 f0
      obtain ⟨i, e1, hi⟩ := DataW.trod_int Tryz.underlying2 f1
      obtain ⟨s, e2, _⟩ := DataW.trod_string Tryz.underlying9 f2
      simp only [List.cons.injEq, and_true] at e0 e1 e2
      subst e0 e1 e2
      have h64 := in64_of hi.2
      unfold In64 at h64
      exact ⟨⟨k, i, s.data.toList⟩, by unfold cellsV; rw [strOf_back], bulk_one_le d, h64.1, by have := h64.2; dsimp only; omega⟩
theorem sum_len : ∀ (B : List Nat), (∀ b ∈ B, 1 ≤ b) → B.length ≤ B.sum
  | [], _ => Nat.le_refl _
  | b :: B, h => by
    have h1 := h b (List.mem_cons_self ..)
    have h2 := sum_len B (fun x hx => h x (List.mem_cons_of_mem _ hx))
    simp only [List.length_cons, List.sum_cons]; omega
theorem open_valsB {H : Type} {enc : TypeId × Value → H} {W : World} {v : Value} {d : DataW H} {p : List MemPlace} {fuel : Nat} (h : DataW.trod enc Tryz.prog W 0 (fun _ => true) true fuel 45 [v] = some (d, p)) : ∃ (a : Option Addr) (n c : Nat) (R : List Val), v = .slice a n c ∧ R.length = n ∧ n + 1 ≤ Rows.uptoBulk d ∧ n ≤ c ∧ Vals W a R ∧ Wf R ∧ (a = none → c = 0) := by
  obtain ⟨a, n, c, R, B, e, hR, hB, hnc, hnil, hS, hOk, hRa⟩ := open_row (d := d) (p := p) Tryz.underlying45 cellsVal (by omega) cellsV (fun _ => rfl) (fun x b => 1 ≤ b ∧ -9223372036854775808 ≤ x.num ∧ x.num < 9223372036854775808) (fun n cs D Pl h => trod_val n cs D Pl h) h
  have hBl := sum_len B (fun b hb => by
    obtain ⟨i, hi⟩ := List.mem_iff_getElem?.1 hb
    have hil : i < R.length := by have := (List.getElem?_eq_some_iff.1 hi).1; omega
    exact (hOk i R[i] b (List.getElem?_eq_getElem hil) hi).1)
  refine ⟨a, n, c, R, e, hR, by omega, hnc, ?_, fun x hx => ?_, hnil⟩
  · cases R with
    | nil => exact .inl rfl
    | cons r R' =>
      obtain ⟨g, off, ha, _⟩ := hRa 0 r rfl
      refine .inr ⟨g, off, ha, fun i x hi => ?_⟩
      obtain ⟨g', off', ha', hr⟩ := hRa i x hi
      rw [ha] at ha'
      cases ha'
      have e0 := hr 0 _ rfl
      rw [Nat.add_zero] at e0
      exact ⟨e0, hr 1 _ rfl, hr 2 _ rfl⟩
  · obtain ⟨i, hi⟩ := List.mem_iff_getElem?.1 hx
    obtain ⟨b, hb⟩ : ∃ b, B[i]? = some b := ⟨_, List.getElem?_eq_getElem (by rw [hB, ← hR]; exact (List.getElem?_eq_some_iff.1 hi).1)⟩
    exact (hOk i x b hi hb).2
theorem sum_mem : ∀ (B : List Nat) (b : Nat), b ∈ B → b ≤ B.sum
  | [], b, h => by simp at h
  | x :: B, b, h => by
    simp only [List.sum_cons]
    rcases List.mem_cons.1 h with h | h
    · omega
    · have := sum_mem B b h; omega
theorem cellsPer : Tryz.prog.cellsOf 24 = 2 := by kernel_rfl
theorem cellsFact : Tryz.prog.cellsOf 59 = 3 := by kernel_rfl
theorem trod_per {H : Type} {enc : TypeId × Value → H} {W : World} {fuel : Nat} {cs : List Value} {d : DataW H} {p : List MemPlace} (h : DataW.trod enc Tryz.prog W 0 (fun _ => true) true fuel 24 cs = some (d, p)) : ∃ x y : Int, cs = [.int .i64 x, .int .i64 y] ∧ -9223372036854775808 ≤ x ∧ x < 9223372036854775808 ∧ -9223372036854775808 ≤ y ∧ y < 9223372036854775808 := by
  obtain ⟨xs, n, _, hd, hl, hxl, hf⟩ := DataW.trod_struct Tryz.underlying24 h
  rw [cellsPer] at hl
  match cs, hl with
  | [c0, c1], _ =>
    have hxl2 : xs.length = 2 := hxl
    match xs, hxl2 with
    | [y0, y1], _ =>
      have f0 : DataW.trod enc Tryz.prog W 0 (fun _ => true) true n 2 (([c0, c1].drop 0).take (Tryz.prog.cellsOf 2)) = [y0, y1][0]? := hf 0 _ rfl
      rw [cells2'] at f0
      change DataW.trod enc Tryz.prog W 0 (fun _ => true) true n 2 [c0] = some y0 at f0
      have f1 : DataW.trod enc Tryz.prog W 0 (fun _ => true) true n 2 (([c0, c1].drop 1).take (Tryz.prog.cellsOf 2)) = [y0, y1][1]? := hf 1 _ rfl
      rw [cells2'] at f1
      change DataW.trod enc Tryz.prog W 0 (fun _ => true) true n 2 [c1] = some y1 at f1
      obtain ⟨k, e0, hk⟩ := DataW.trod_int Tryz.underlying2 f0
      obtain ⟨i, e1, hi⟩ := DataW.trod_int Tryz.underlying2 f1
      simp only [List.cons.injEq, and_true] at e0 e1
      subst e0 e1
      have h64 := in64_of hk.2
      have k64 := in64_of hi.2
      unfold In64 at h64 k64
      exact ⟨k, i, rfl, h64.1, by have := h64.2; omega, k64.1, by have := k64.2; omega⟩
theorem open_per {H : Type} {enc : TypeId × Value → H} {W : World} {base : Nat} {v : Value} {d : DataW H} {p : List MemPlace} (hok : Value.okWide Tryz.prog W .any base 24 v) (h : DataW.Trod enc Tryz.prog W 0 (fun _ => true) true 24 v d p) : ∃ q : Per, v = perV q ∧ -9223372036854775808 ≤ q.lo ∧ q.lo < 9223372036854775808 ∧ -9223372036854775808 ≤ q.hi ∧ q.hi < 9223372036854775808 := by
  obtain ⟨cs, rfl, hn⟩ := okWide_struct Tryz.underlying24 hok
  rw [cellsPer] at hn
  obtain ⟨fuel, hf⟩ := h
  obtain ⟨x, y, hq, h1, h2, h3, h4⟩ := trod_per hf
  refine ⟨⟨x, y⟩, ?_, h1, h2, h3, h4⟩
  match cs, hn with
  | ⟨[c0, c1]⟩, _ =>
    have h2 : [c0, c1] = [.int .i64 x, .int .i64 y] := by
      rw [← hq]
      rfl
    simp only [List.cons.injEq, and_true] at h2
    obtain ⟨rfl, rfl⟩ := h2
    rfl
def cellsF (f : Ft) : List Value := [f.rv, .int .i64 f.lo, .int .i64 f.hi]
/-- What is known of a fact that came in. -/
structure FtIn (W : World) (f : Ft) : Prop where
  vals : Vals W f.p f.row
  nil : f.p = none → f.c = 0
  cap : f.row.length ≤ f.c
  wf : Wf f.row
  lo : -9223372036854775808 ≤ f.lo ∧ f.lo < 9223372036854775808
  hi : -9223372036854775808 ≤ f.hi ∧ f.hi < 9223372036854775808
theorem trod_fact {H : Type} {enc : TypeId × Value → H} {W : World} {fuel : Nat} {cs : List Value} {d : DataW H} {p : List MemPlace} (h : DataW.trod enc Tryz.prog W 0 (fun _ => true) true fuel 59 cs = some (d, p)) : ∃ x : Ft, cs = cellsF x ∧ x.row.length + 3 ≤ Rows.uptoBulk d ∧ FtIn W x := by
  obtain ⟨y0, y1, n, hd, hl, f0, f1⟩ := trod_struct2 Tryz.underlying59 h
  rw [cellsFact] at hl
  match cs, hl with
  | [c0, c1, c2], _ =>
    rw [show ([c0, c1, c2].drop 0).take (Tryz.prog.cellsOf 45) = [c0] by rw [cellsRow]; rfl] at f0
    rw [show ([c0, c1, c2].drop 1).take (Tryz.prog.cellsOf 24) = [c1, c2] by rw [cellsPer]; rfl] at f1
    obtain ⟨z0, z1⟩ := y0
    obtain ⟨z2, z3⟩ := y1
    obtain ⟨a, k, c, R, rfl, hR, hb, hnc, hV, hw, hnil⟩ := open_valsB f0
    obtain ⟨x, y, e, g1, g2, g3, g4⟩ := trod_per f1
    simp only [List.cons.injEq, and_true] at e
    obtain ⟨rfl, rfl⟩ := e
    have hbd : k + 3 ≤ Rows.uptoBulk d := by
      have e3 : d = .agg [z0, z2] := (Prod.mk.inj hd).1
      have e4 := bulk_one_le z2
      rw [e3]
      simp only [Rows.uptoBulk, Rows.uptoBulkAll]
      omega
    subst hR
    exact ⟨⟨a, c, R, x, y⟩, rfl, hbd, ⟨hV, hnil, hnc, hw, ⟨g1, g2⟩, ⟨g3, g4⟩⟩⟩
theorem sum_len3 : ∀ (B : List Nat), (∀ b ∈ B, 3 ≤ b) → 3 * B.length ≤ B.sum
  | [], _ => Nat.le_refl _
  | b :: B, h => by
    have h1 := h b (List.mem_cons_self ..)
    have h2 := sum_len3 B (fun x hx => h x (List.mem_cons_of_mem _ hx))
    simp only [List.length_cons, List.sum_cons]; omega
theorem open_facts {H : Type} {enc : TypeId × Value → H} {W : World} {v : Value} {d : DataW H} {p : List MemPlace} (h : ∃ fuel, DataW.trod enc Tryz.prog W 0 (fun _ => true) true fuel 22 [v] = some (d, p)) (hs : Rows.uptoBulk d ≤ 1048576) : ∃ x : Ls, v = x.v ∧ x.L.length ≤ 349525 ∧ x.L.length ≤ x.c ∧ FIn W x ∧ ∀ f ∈ x.L, FtIn W f ∧ f.row.length ≤ 1048576 := by
  obtain ⟨fuel, h⟩ := h
  obtain ⟨a, n, c, L, B, e, hL, hB, hnc, hnil, hS, hOk, hRa⟩ := open_row (d := d) (p := p) Tryz.underlying22 cellsFact (by omega) cellsF (fun _ => rfl) (fun x b => x.row.length + 3 ≤ b ∧ FtIn W x) (fun n cs D Pl h => trod_fact h) h
  have hBl := sum_len3 B (fun b hb => by
    obtain ⟨i, hi⟩ := List.mem_iff_getElem?.1 hb
    have hil : i < L.length := by have := (List.getElem?_eq_some_iff.1 hi).1; omega
    have := (hOk i L[i] b (List.getElem?_eq_getElem hil) hi).1
    omega)
  have hall : ∀ f ∈ L, FtIn W f ∧ f.row.length ≤ 1048576 := fun f hf => by
    obtain ⟨i, hi⟩ := List.mem_iff_getElem?.1 hf
    obtain ⟨b, hb⟩ : ∃ b, B[i]? = some b := ⟨_, List.getElem?_eq_getElem (by rw [hB, ← hL]; exact (List.getElem?_eq_some_iff.1 hi).1)⟩
    have h1 := hOk i f b hi hb
    have h2 := sum_mem B b (List.mem_of_getElem? hb)
    exact ⟨h1.2, by have := h1.1; omega⟩
  subst hL
  refine ⟨⟨a, c, L⟩, e, by show L.length ≤ _; omega, hnc, ⟨?_, hnil, fun f hf => ?_⟩, hall⟩
  · by_cases hne : L = []
    · exact .inl hne
    obtain ⟨r, hr⟩ : ∃ r, L[0]? = some r := ⟨_, List.getElem?_eq_getElem (List.length_pos_iff.2 hne)⟩
    obtain ⟨g, off, ha, _⟩ := hRa 0 r hr
    refine .inr ⟨g, off, ha, fun j u hu => ?_⟩
    have hj : j < L.length * 3 := by have := (List.getElem?_eq_some_iff.1 hu).1; rw [elF.length_encs] at this; exact this
    obtain ⟨f, hf⟩ : ∃ p, L[j / 3]? = some p := ⟨_, List.getElem?_eq_getElem (by omega)⟩
    have e1 := elF.encs_get L (j / 3) f hf (j % 3) (Nat.mod_lt _ (by decide))
    rw [show j / 3 * elF.k + j % 3 = j by show j / 3 * 3 + j % 3 = j; omega, hu] at e1
    obtain ⟨g', off', ha', hr'⟩ := hRa (j / 3) f hf
    rw [ha] at ha'
    cases ha'
    have e2 := hr' (j % 3) u e1.symm
    rw [show off + j = off + j / 3 * 3 + j % 3 by omega]
    exact e2
  · obtain ⟨k, hk⟩ := hall f hf
    exact ⟨k.vals, k.nil, k.cap, by omega, fun _ _ _ _ => trivial⟩
end Go.Proofs.YtlapifncplbcnaaGreat
