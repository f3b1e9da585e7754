/- What comes in: expressions, rows of values. -/
import Derived.Test.YtbcmgodpplapaaaS
import Derived.Test.YtbcmgodpplapaaaYd
namespace Go.Proofs.Ytbcmgodpplapaaa
open Go.ChangeShapes Go.WideShapes Go.ChangeAt Go.RowKit Go.Deep
set_option maxRecDepth 100000
set_option linter.unusedVariables false

theorem cells42 : Try.prog.cellsOf 42 = 5 := by kernel_rfl
theorem cells40 : Try.prog.cellsOf 40 = 1 := by kernel_rfl
theorem cells50 : Try.prog.cellsOf 50 = 3 := by kernel_rfl
theorem choose_list {α β : Type} (R : α → β → Prop) : ∀ L : List α, (∀ x ∈ L, ∃ y, R x y) → ∃ M : List β, M.length = L.length ∧ ∀ (i : Nat) (x : α) (y : β), L[i]? = some x → M[i]? = some y → R x y
  | [], _ => ⟨[], rfl, fun i x y h => by simp at h⟩
  | x :: L, h => by
    obtain ⟨y, hy⟩ := h x (by simp)
    obtain ⟨M, h1, h2⟩ := choose_list R L (fun z hz => h z (by simp [hz]))
    refine ⟨y :: M, by simp [h1], ?_⟩
    intro i a b ha hb
    cases i with
    | zero =>
      simp only [List.getElem?_cons_zero, Option.some.injEq] at ha hb
      subst ha hb
      exact hy
    | succ i => exact h2 i a b (by simpa using ha) (by simpa using hb)
theorem ExsAt.of {w : World} {a : Option Addr} : ∀ (l : List Ex) (k : Nat), (∀ (j : Nat) (e : Ex), l[j]? = some e → ∃ (g off : Nat) (x0 x1 x2 x3 x4 : Value), a = some ⟨g, off, none⟩ ∧ w.cell? ⟨g, off + (k + j) * 5, none⟩ = some x0 ∧ w.cell? ⟨g, off + (k + j) * 5 + 1, none⟩ = some x1 ∧ w.cell? ⟨g, off + (k + j) * 5 + 2, none⟩ = some x2 ∧ w.cell? ⟨g, off + (k + j) * 5 + 3, none⟩ = some x3 ∧ w.cell? ⟨g, off + (k + j) * 5 + 4, none⟩ = some x4 ∧ ExAt w e (.agg #[x0, x1, x2, x3, x4])) → ExsAt w l a k
  | [], k, h => by unfold ExsAt; trivial
  | x :: l, k, h => by
    unfold ExsAt
    refine ⟨h 0 x rfl, ExsAt.of l (k + 1) (fun j t ht => ?_)⟩
    have := h (j + 1) t (by simpa using ht)
    rw [show k + (j + 1) = k + 1 + j by omega] at this
    exact this
theorem trod_ex {H : Type} {enc : TypeId × Value → H} {W : World} : ∀ (N : Nat), N ≤ 1048576 → ∀ (fuel : Nat) (cs : List Value) (d : DataW H) (p : List MemPlace), DataW.trod enc Try.prog W 0 (fun _ => true) true fuel 42 cs = some (d, p) → Rows.uptoBulk d ≤ N → ∃ e : Ex, ExAt W e (.agg cs.toArray)
  | 0, _, fuel, cs, d, p, h, hb => by have := bulk_one_le d; omega
  | N + 1, hN, fuel, cs, d, p, h, hb => by
    obtain ⟨xs, n, _, hd, hl, hxl, hf⟩ := DataW.trod_struct Try.underlying42 h
    rw [cells42] at hl
    match cs, hl with
    | [c0, c1, c2, c3, c4], _ =>
      have hxl5 : xs.length = 5 := hxl
      match xs, hxl5 with
      | [y0, y1, y2, y3, y4], _ =>
        have f0 : DataW.trod enc Try.prog W 0 (fun _ => true) true n 9 (([c0, c1, c2, c3, c4].drop 0).take (Try.prog.cellsOf 9)) = [y0, y1, y2, y3, y4][0]? := hf 0 _ rfl
        rw [cells9] at f0
        change DataW.trod enc Try.prog W 0 (fun _ => true) true n 9 [c0] = some y0 at f0
        have f1 : DataW.trod enc Try.prog W 0 (fun _ => true) true n 2 (([c0, c1, c2, c3, c4].drop 1).take (Try.prog.cellsOf 2)) = [y0, y1, y2, y3, y4][1]? := hf 1 _ rfl
        rw [show Try.prog.cellsOf 2 = 1 by kernel_rfl] at f1
        change DataW.trod enc Try.prog W 0 (fun _ => true) true n 2 [c1] = some y1 at f1
        have f2 : DataW.trod enc Try.prog W 0 (fun _ => true) true n 9 (([c0, c1, c2, c3, c4].drop 2).take (Try.prog.cellsOf 9)) = [y0, y1, y2, y3, y4][2]? := hf 2 _ rfl
        rw [cells9] at f2
        change DataW.trod enc Try.prog W 0 (fun _ => true) true n 9 [c2] = some y2 at f2
        have f3 : DataW.trod enc Try.prog W 0 (fun _ => true) true n 9 (([c0, c1, c2, c3, c4].drop 3).take (Try.prog.cellsOf 9)) = [y0, y1, y2, y3, y4][3]? := hf 3 _ rfl
        rw [cells9] at f3
        change DataW.trod enc Try.prog W 0 (fun _ => true) true n 9 [c3] = some y3 at f3
        have f4 : DataW.trod enc Try.prog W 0 (fun _ => true) true n 40 (([c0, c1, c2, c3, c4].drop 4).take (Try.prog.cellsOf 40)) = [y0, y1, y2, y3, y4][4]? := hf 4 _ rfl
        rw [cells40] at f4
        change DataW.trod enc Try.prog W 0 (fun _ => true) true n 40 [c4] = some y4 at f4
        have hd1 : d = .agg [y0.1, y1.1, y2.1, y3.1, y4.1] := (Prod.mk.inj hd).1
        obtain ⟨s0, e0, _⟩ := DataW.trod_string Try.underlying9 f0
        obtain ⟨k, e1, _⟩ := DataW.trod_int Try.underlying2 f1
        obtain ⟨s2, e2, _⟩ := DataW.trod_string Try.underlying9 f2
        obtain ⟨s3, e3, _⟩ := DataW.trod_string Try.underlying9 f3
        have hb4 : Rows.uptoBulk y4.1 ≤ N := by
          rw [hd1] at hb
          simp only [Rows.uptoBulk, Rows.uptoBulkAll] at hb
          omega
        obtain ⟨a, m, c, L, B, e4, hL, hB, _, _, hS, hOk, hR⟩ := open_row (d := y4.1) (p := y4.2) Try.underlying40 cells42 (by omega) (fun x : { l : List Value // l.length = 5 } => x.1) (fun x => x.2) (fun x b => 1 ≤ b ∧ (b ≤ N → ∃ e : Ex, ExAt W e (.agg x.1.toArray)))
          (fun n cs D Pl h => by
            obtain ⟨_, _, _, _, hl', _, _⟩ := DataW.trod_struct Try.underlying42 h
            rw [cells42] at hl'
            exact ⟨⟨cs, hl'⟩, rfl, bulk_one_le _, fun hle => trod_ex N (by omega) n cs D Pl h hle⟩) f4
        have hmem : ∀ (L : List Nat) (b : Nat), b ∈ L → b ≤ L.sum := by
          intro L
          induction L with
          | nil => intro b hb; cases hb
          | cons a L ih => intro b hb; rcases List.mem_cons.1 hb with rfl | hb; simp only [List.sum_cons]; omega; have := ih b hb; simp only [List.sum_cons]; omega
        have hsl : ∀ (L : List Nat), (∀ b ∈ L, 1 ≤ b) → L.length ≤ L.sum := by
          intro L
          induction L with
          | nil => simp
          | cons a L ih => intro hL; have h1 := hL a (by simp); have h2 := ih (fun b hb => hL b (by simp [hb])); simp only [List.length_cons, List.sum_cons]; omega
        have hall : ∀ x ∈ L, ∃ e : Ex, ExAt W e (.agg x.1.toArray) := by
          intro x hx
          obtain ⟨i, hi⟩ := List.getElem?_of_mem hx
          obtain ⟨b, hb⟩ : ∃ b, B[i]? = some b := ⟨_, List.getElem?_eq_getElem (by have := (List.getElem?_eq_some_iff.1 hi).1; omega)⟩
          have := hmem B b (List.mem_of_getElem? hb)
          exact (hOk i x b hi hb).2 (by omega)
        obtain ⟨M, hM, hMR⟩ := choose_list _ L hall
        have hlen : m ≤ B.sum := by
          have := hsl B (fun b hb => by
            obtain ⟨i, hi⟩ := List.getElem?_of_mem hb
            obtain ⟨x, hx⟩ : ∃ x, L[i]? = some x := ⟨_, List.getElem?_eq_getElem (by have := (List.getElem?_eq_some_iff.1 hi).1; omega)⟩
            exact (hOk i x b hx hi).1)
          omega
        simp only [List.cons.injEq, and_true] at e0 e1 e2 e3
        subst e0 e1 e2 e3 e4
        refine ⟨.mk s0 k s2 s3 M, ?_⟩
        unfold ExAt
        refine ⟨a, c, by rw [hM, hL], by omega, ExsAt.of M 0 ?_⟩
        intro j e he
        obtain ⟨x, hx⟩ : ∃ x, L[j]? = some x := ⟨_, List.getElem?_eq_getElem (by have := (List.getElem?_eq_some_iff.1 he).1; omega)⟩
        obtain ⟨g, off, ha, hr⟩ := hR j x hx
        have hex := hMR j x e hx he
        obtain ⟨l, hl5⟩ := x
        match l, hl5 with
        | [x0, x1, x2, x3, x4], _ =>
          rw [Nat.zero_add]
          exact ⟨g, off, x0, x1, x2, x3, x4, ha, by have := hr 0 _ rfl; simpa using this, hr 1 _ rfl, hr 2 _ rfl, hr 3 _ rfl, hr 4 _ rfl, hex⟩
theorem open_expr {H : Type} {enc : TypeId × Value → H} {W : World} {base : Nat} {v : Value} {d : DataW H} {p : List MemPlace} (hok : Value.okWide Try.prog W .any base 42 v) (h : DataW.Trod enc Try.prog W 0 (fun _ => true) true 42 v d p) (hs : Rows.uptoBulk d ≤ 1048576) : ∃ e : Ex, ExAt W e v := by
  obtain ⟨cs, rfl, hn⟩ := okWide_struct Try.underlying42 hok
  obtain ⟨fuel, hf⟩ := h
  exact trod_ex 1048576 (Nat.le_refl _) fuel _ d p hf hs
theorem trod_val {H : Type} {enc : TypeId × Value → H} {W : World} (fuel : Nat) (cs : List Value) (d : DataW H) (p : List MemPlace) (h : DataW.trod enc Try.prog W 0 (fun _ => true) true fuel 50 cs = some (d, p)) : ∃ x : Vl, cs = [.int .i64 x.kind, .int .i64 x.num, .string x.text] ∧ 1 ≤ Rows.uptoBulk d := by
  obtain ⟨xs, n, _, hd, hl, hxl, hf⟩ := DataW.trod_struct Try.underlying50 h
  rw [cells50] at hl
  match cs, hl with
  | [c0, c1, c2], _ =>
    have hxl3 : xs.length = 3 := hxl
    match xs, hxl3 with
    | [y0, y1, y2], _ =>
      have f0 : DataW.trod enc Try.prog W 0 (fun _ => true) true n 3 (([c0, c1, c2].drop 0).take (Try.prog.cellsOf 3)) = [y0, y1, y2][0]? := hf 0 _ rfl
      rw [cells3] at f0
      change DataW.trod enc Try.prog W 0 (fun _ => true) true n 3 [c0] = some y0 at f0
      have f1 : DataW.trod enc Try.prog W 0 (fun _ => true) true n 2 (([c0, c1, c2].drop 1).take (Try.prog.cellsOf 2)) = [y0, y1, y2][1]? := hf 1 _ rfl
      rw [show Try.prog.cellsOf 2 = 1 by kernel_rfl] at f1
      change DataW.trod enc Try.prog W 0 (fun _ => true) true n 2 [c1] = some y1 at f1
      have f2 : DataW.trod enc Try.prog W 0 (fun _ => true) true n 9 (([c0, c1, c2].drop 2).take (Try.prog.cellsOf 9)) = [y0, y1, y2][2]? := hf 2 _ rfl
      rw [cells9] at f2
      change DataW.trod enc Try.prog W 0 (fun _ => true) true n 9 [c2] = some y2 at f2
      obtain ⟨k, e0, _⟩ := DataW.trod_int Try.underlying3 f0
      obtain ⟨m, e1, _⟩ := DataW.trod_int Try.underlying2 f1
      obtain ⟨s, e2, _⟩ := DataW.trod_string Try.underlying9 f2
      simp only [List.cons.injEq, and_true] at e0 e1 e2
      subst e0 e1 e2
      exact ⟨⟨k, m, s⟩, rfl, bulk_one_le _⟩
theorem open_vals {H : Type} {enc : TypeId × Value → H} {W : World} {v : Value} {d : DataW H} {p : List MemPlace} (h : ∃ fuel, DataW.trod enc Try.prog W 0 (fun _ => true) true fuel 43 [v] = some (d, p)) (hs : Rows.uptoBulk d ≤ 1048576) :
    ∃ (a : Option Addr) (n c : Nat) (R : List Vl), v = .slice a n c ∧ R.length = n ∧ ValsIn W a R ∧ n ≤ 4611686018427387904 := by
  obtain ⟨fuel, hf⟩ := h
  obtain ⟨a, n, c, R, B, hv, hR, hB, _, _, hS, hOk, hRR⟩ := open_row (d := d) (p := p) Try.underlying43 cells50 (by omega) (fun x : Vl => [.int .i64 x.kind, .int .i64 x.num, .string x.text]) (fun _ => rfl) (fun _ b => 1 ≤ b) (fun n cs D Pl h => trod_val n cs D Pl h) hf
  have hsl : ∀ (L : List Nat), (∀ b ∈ L, 1 ≤ b) → L.length ≤ L.sum := by
    intro L
    induction L with
    | nil => simp
    | cons a L ih => intro hL; have h1 := hL a (by simp); have h2 := ih (fun b hb => hL b (by simp [hb])); simp only [List.length_cons, List.sum_cons]; omega
  have := hsl B (fun b hb => by
    obtain ⟨i, hi⟩ := List.getElem?_of_mem hb
    obtain ⟨x, hx⟩ : ∃ x, R[i]? = some x := ⟨_, List.getElem?_eq_getElem (by have := (List.getElem?_eq_some_iff.1 hi).1; omega)⟩
    exact hOk i x b hx hi)
  refine ⟨a, n, c, R, hv, hR, ?_, by omega⟩
  intro i x hx
  obtain ⟨g, off, ha, hr⟩ := hRR i x hx
  exact ⟨g, off, ha, by have := hr 0 _ rfl; simpa using this, hr 1 _ rfl, hr 2 _ rfl⟩
end Go.Proofs.Ytbcmgodpplapaaa
