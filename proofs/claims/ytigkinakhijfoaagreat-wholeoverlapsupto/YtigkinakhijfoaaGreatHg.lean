/- While Overlap goes on: what stands, and a range taken from either tree. -/
import Derived.Test.YtigkinakhijfoaaGreatHf
namespace Go.Proofs.YtigkinakhijfoaaGreat
open Go.RowKit Go.Shelf
set_option maxRecDepth 100000
set_option linter.unusedVariables false
set_option linter.unusedSimpArgs false

/-- How the blocks lie. -/
structure SA (w0 : World) (base B gt gm fb tb bx g : Nat) (XF XT : Nat → Prop) : Prop where
  a1 : gt ≠ gm
  a2 : ¬ (gt = fb ∨ XF gt)
  a3 : ¬ (gt = tb ∨ XT gt)
  a4 : ¬ (gm = fb ∨ XF gm)
  a5 : ¬ (gm = tb ∨ XT gm)
  a6 : ∀ k, (k = fb ∨ XF k) → ¬ (k = tb ∨ XT k)
  l1 : gt < w0.heap.size
  l2 : gm < w0.heap.size
  l3 : ∀ k, (k = fb ∨ XF k) → k < w0.heap.size
  l4 : ∀ k, (k = tb ∨ XT k) → k < w0.heap.size
  g1 : ¬ (g = fb ∨ XF g)
  g3 : ¬ (g = tb ∨ XT g)
  g2 : g < B
  b0 : w0.heap.size ≤ B
  b1 : B ≤ bx
/-- What stands. -/
structure SO (base B gt gm fb tb bx g : Nat) (lo hi : Int) (n : Nat) (f : Int → Option Per) (FF FT : List It) (XF XT : Nat → Prop) (w0 : World) (c1 c2 : Int) (C : List Int) (W : World) : Prop where
  row : W.heap[gt]? = some (.cells #[.map (some gm), .pointer (some ⟨fb, 0, none⟩), .pointer (some ⟨tb, 0, none⟩)] 50 (0, 0))
  mp : MapN W gm n f
  tf : ∃ d : Kd, TS base 16 c1 W fb d ∧ d.F = FF ∧ d.X = XF
  tt : ∃ d : Kd, TS base 16 c2 W tb d ∧ d.F = FT ∧ d.X = XT
  bxv : ∃ v, Boxed W bx 25 v ∧ W.ownsRow B 2 1 v C.length (C.map (Value.int .i64))
  two : Two W g (.int .i64 lo) (.int .i64 hi)
  fr : Fr w0 W (fun k => k = fb ∨ k = tb)
  sz : B ≤ W.heap.size
section
variable {base B gt gm fb tb bx g : Nat} {lo hi : Int} {n : Nat} {f : Int → Option Per} {FF FT : List It} {XF XT : Nat → Prop} {w0 W W' : World} {c1 c2 : Int} {C : List Int}
theorem SO.cells (h : SO base B gt gm fb tb bx g lo hi n f FF FT XF XT w0 c1 c2 C W) : W.cell? ⟨gt, 0, none⟩ = some (.map (some gm)) ∧ W.cell? ⟨gt, 1, none⟩ = some (.pointer (some ⟨fb, 0, none⟩)) ∧ W.cell? ⟨gt, 2, none⟩ = some (.pointer (some ⟨tb, 0, none⟩)) ∧ W.cell? ⟨g, 0, none⟩ = some (.int .i64 lo) ∧ W.cell? ⟨g, 1, none⟩ = some (.int .i64 hi) :=
  ⟨(cell_of_row _ _ _ _ _ _ h.row).trans rfl, (cell_of_row _ _ _ _ _ _ h.row).trans rfl, (cell_of_row _ _ _ _ _ _ h.row).trans rfl, h.two.1, h.two.2.1⟩
theorem ownsRow_ge {w : World} {B : Nat} {v : Value} {m : Nat} {l : List Value} (h : w.ownsRow B 2 1 v m l) : ∀ k, v.ownBlock = some k → B ≤ k := fun k hk => by
  rcases h.2 with ⟨h2, _⟩ | ⟨q, cap, cc, h2, hg, _⟩
  · rw [h2] at hk; cases hk
  · rw [h2] at hk; have : q = k := Option.some.inj hk; omega
theorem SO.fresh (h : SO base B gt gm fb tb bx g lo hi n f FF FT XF XT w0 c1 c2 C W) (hf : Fr W W' (fun _ => False)) : SO base B gt gm fb tb bx g lo hi n f FF FT XF XT w0 c1 c2 C W' := by
  obtain ⟨h1, h2, ⟨dF, h3, e3⟩, ⟨dT, h4, e4⟩, ⟨v, h5, h6⟩, h7, h8, h9⟩ := h
  exact ⟨by rw [hf.block gt (Array.getElem?_eq_some_iff.1 h1).1 (fun h => h)]; exact h1, h2.fr hf (fun h => h), ⟨dF, h3.fr hf (fun _ _ h => h), e3⟩, ⟨dT, h4.fr hf (fun _ _ h => h), e4⟩, ⟨v, (hf.block bx h5.lt (fun h => h)).trans h5, ownsRow_fr h6 hf (fun _ _ h => h)⟩, h7.fr hf (fun h => h), (h8.trans hf).mono (fun k _ h => by rcases h with h | h; exact h; exact h.elim), by have := hf.size; omega⟩
theorem SO.takeT (hA : SA w0 base B gt gm fb tb bx g XF XT) (h : SO base B gt gm fb tb bx g lo hi n f FF FT XF XT w0 c1 c2 C W) (fr to : ByteArray) (hc0 : 0 ≤ c2) (hc1 : c2 ≤ 4611686018427387904) (hl : C.length + FT.length ≤ 4398046511104) :
    Calls Tryz.prog 22 #[.pointer (some ⟨tb, 0, none⟩), .string fr, .string to, .pointer (some ⟨bx, 0, none⟩)] W fun e w' => e = .returned (.tuple #[]) ∧ SO base B gt gm fb tb bx g lo hi n f FF FT XF XT w0 c1 (c2 + 1) (C ++ idsR fr to FT) w' := by
  obtain ⟨h1, h2, ⟨dF, h3, rfl, rfl⟩, ⟨dT, h4, rfl, rfl⟩, ⟨v, h5, h6⟩, h7, h8, h9⟩ := h
  have hB : w0.heap.size ≤ B := hA.b0
  refine (take_any h4 (fun k hk => Nat.lt_of_lt_of_le (hA.l4 k hk) hB) h9 hA.b1 h5 h6 fr to hc0 hc1 hl).mono ?_
  rintro e w' ⟨v', rfl, q1, q2, q3, q4, q5⟩
  have hv := ownsRow_ge h6
  have out : ∀ k, k < w0.heap.size → k ≠ tb → ¬ (k = tb ∨ k = bx ∨ v.ownBlock = some k) := fun k h1 h2 h => by
    rcases h with h | h | h
    · exact h2 h
    · have := hA.b1; omega
    · have := hv k h; omega
  refine ⟨rfl, ?_, h2.fr q5 (out gm hA.l2 (fun e => hA.a5 (.inl e))), ⟨dF, h3.fr q5 (fun k hk => out k (hA.l3 k hk) (fun e => hA.a6 k hk (.inl e))), rfl, rfl⟩, ⟨dT.old, q1, rfl, rfl⟩, ⟨v', q2, ?_⟩, h7.fr q5 (fun h => ?_), (h8.trans q5).mono (fun k hk h => ?_), by have := q5.size; omega⟩
  · rw [q5.block gt (Array.getElem?_eq_some_iff.1 h1).1 (out gt hA.l1 (fun e => hA.a3 (.inl e)))]; exact h1
  · have e1 : (C ++ idsR fr to dT.F).length = C.length + (rng fr to dT.F).length := by simp [idsR]
    rw [e1]; exact q3
  · have := hA.g2; have := hA.b1
    rcases h with h | h | h
    · exact hA.g3 (.inl h)
    · omega
    · have := hv g h; omega
  · rcases h with h | h | h | h
    · exact h
    · exact .inr h
    · have := hA.b1; omega
    · have := hv k h; omega
theorem SO.takeF (hA : SA w0 base B gt gm fb tb bx g XF XT) (h : SO base B gt gm fb tb bx g lo hi n f FF FT XF XT w0 c1 c2 C W) (fr to : ByteArray) (hc0 : 0 ≤ c1) (hc1 : c1 ≤ 4611686018427387904) (hl : C.length + FF.length ≤ 4398046511104) :
    Calls Tryz.prog 22 #[.pointer (some ⟨fb, 0, none⟩), .string fr, .string to, .pointer (some ⟨bx, 0, none⟩)] W fun e w' => e = .returned (.tuple #[]) ∧ SO base B gt gm fb tb bx g lo hi n f FF FT XF XT w0 (c1 + 1) c2 (C ++ idsR fr to FF) w' := by
  obtain ⟨h1, h2, ⟨dF, h3, rfl, rfl⟩, ⟨dT, h4, rfl, rfl⟩, ⟨v, h5, h6⟩, h7, h8, h9⟩ := h
  have hB : w0.heap.size ≤ B := hA.b0
  refine (take_any h3 (fun k hk => Nat.lt_of_lt_of_le (hA.l3 k hk) hB) h9 hA.b1 h5 h6 fr to hc0 hc1 hl).mono ?_
  rintro e w' ⟨v', rfl, q1, q2, q3, q4, q5⟩
  have hv := ownsRow_ge h6
  have out : ∀ k, k < w0.heap.size → k ≠ fb → ¬ (k = fb ∨ k = bx ∨ v.ownBlock = some k) := fun k h1 h2 h => by
    rcases h with h | h | h
    · exact h2 h
    · have := hA.b1; omega
    · have := hv k h; omega
  refine ⟨rfl, ?_, h2.fr q5 (out gm hA.l2 (fun e => hA.a4 (.inl e))), ⟨dF.old, q1, rfl, rfl⟩, ⟨dT, h4.fr q5 (fun k hk => out k (hA.l4 k hk) (fun e => hA.a6 k (.inl e) hk)), rfl, rfl⟩, ⟨v', q2, ?_⟩, h7.fr q5 (fun h => ?_), (h8.trans q5).mono (fun k hk h => ?_), by have := q5.size; omega⟩
  · rw [q5.block gt (Array.getElem?_eq_some_iff.1 h1).1 (out gt hA.l1 (fun e => hA.a2 (.inl e)))]; exact h1
  · have e1 : (C ++ idsR fr to dF.F).length = C.length + (rng fr to dF.F).length := by simp [idsR]
    rw [e1]; exact q3
  · have := hA.g2; have := hA.b1
    rcases h with h | h | h
    · exact hA.g1 (.inl h)
    · omega
    · have := hv g h; omega
  · rcases h with h | h | h | h
    · exact h
    · exact .inl h
    · have := hA.b1; omega
    · have := hv k h; omega
end
/-- What Overlap leaves. -/
def OverQ (w : World) (base gt N : Nat) (L : List Itm) (X : Nat → Prop) (q : Per) (e : Ending) (w' : World) : Prop :=
  ∃ (v : Value) (A : List Int), e = .returned (.tuple #[v, .int .i64 (codeP q)]) ∧ OwnI w' v A ∧ (rightB q = true → OvA L q A) ∧ (rightB q = false → A = []) ∧ (∀ k, v.ownBlock = some k → w.heap.size ≤ k) ∧ RT w' base gt (N + 42) L X ∧ Fr w w' X
end Go.Proofs.YtigkinakhijfoaaGreat
