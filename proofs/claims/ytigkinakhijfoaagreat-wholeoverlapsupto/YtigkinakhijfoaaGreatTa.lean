/- The two trees side by side. -/
import Derived.Test.YtigkinakhijfoaaGreatHh
import Derived.Test.YtigkinakhijfoaaGreatPsM2
import Derived.Test.YtigkinakhijfoaaGreatJPd
namespace Go.Proofs.YtigkinakhijfoaaGreat
open Go.RowKit
set_option maxRecDepth 100000
set_option linter.unusedVariables false
set_option linter.unusedSimpArgs false

/-- Both trees, made behind w1; G: blocks that are none of theirs. -/
def TT (w1 : World) (rt ps N : Nat) (L : List Itm) (P : List Ps.Pt) (G : Nat → Prop) (W : World) : Prop :=
  ∃ X Y : Nat → Prop, RT W w1.heap.size rt N L X ∧ Ps.TR W w1.heap.size ps P Y ∧ (∀ k, X k → ¬ Y k) ∧ (∀ k, G k → ¬ X k ∧ ¬ Y k ∧ k < W.heap.size) ∧ Fr w1 W (fun _ => False)
/-- Blocks of the trees. -/
def Zt (w1 W0 : World) (G : Nat → Prop) (k : Nat) : Prop := w1.heap.size ≤ k ∧ k < W0.heap.size ∧ ¬ G k
theorem fr_no {a b c : World} (h : Fr a b (fun _ => False)) (k : Fr b c (fun _ => False)) : Fr a c (fun _ => False) := (h.trans k).mono (by simp)
section
variable {w1 : World} {rt ps N : Nat} {L : List Itm} {P : List Ps.Pt} {G : Nat → Prop} {W0 W : World}
theorem TT.fr (h : TT w1 rt ps N L P G W) : Fr w1 W (fun _ => False) := by
  obtain ⟨X, Y, _, _, _, _, h⟩ := h
  exact h
theorem TT.fresh (h : TT w1 rt ps N L P G W0) (hf : Fr W0 W (fun _ => False)) : TT w1 rt ps N L P G W := by
  obtain ⟨X, Y, h1, h2, h3, h4, h5⟩ := h
  exact ⟨X, Y, h1.fr hf (fun _ _ h => h), h2.fr hf (fun _ _ h => h), h3, fun k hk => ⟨(h4 k hk).1, (h4 k hk).2.1, Nat.lt_of_lt_of_le (h4 k hk).2.2 hf.size⟩, fr_no h5 hf⟩
theorem TT.mono {N' : Nat} (h : TT w1 rt ps N L P G W) (hn : N ≤ N') : TT w1 rt ps N' L P G W := by
  obtain ⟨X, Y, h1, h2⟩ := h
  exact ⟨X, Y, h1.mono hn, h2⟩
theorem TT.ids (h : TT w1 rt ps N L P G W) : Ids L ∧ L.length ≤ N := by
  obtain ⟨X, Y, h1, _⟩ := h
  obtain ⟨gm, fb, tb, dF, dT, c1, c2, _, _, _, _, _, _, h7, h8, _⟩ := h1
  exact ⟨h7.1, by omega⟩
theorem TT.guard (h : TT w1 rt ps N L P G W0) (hf : Fr W0 W (fun _ => False)) (g : Nat) (hg : W0.heap.size ≤ g) (hl : g < W.heap.size) : TT w1 rt ps N L P (fun k => G k ∨ k = g) W := by
  obtain ⟨X, Y, h1, h2, h3, h4, h5⟩ := h.fresh hf
  obtain ⟨X', Y', q1, q2, q3, q4, q5⟩ := h
  refine ⟨X', Y', q1.fr hf (fun _ _ h => h), q2.fr hf (fun _ _ h => h), q3, fun k hk => ?_, h5⟩
  rcases hk with hk | rfl
  · exact ⟨(q4 k hk).1, (q4 k hk).2.1, Nat.lt_of_lt_of_le (q4 k hk).2.2 hf.size⟩
  · exact ⟨fun h => by have := (q1.lt k h).2; omega, fun h => by have := (q2.lt k h).2; omega, hl⟩
theorem TT.held (h : TT w1 rt ps N L P G W0) (hf : Fr W0 W G) (hG : ∀ k, G k → w1.heap.size ≤ k) : TT w1 rt ps N L P G W := by
  obtain ⟨X, Y, h1, h2, h3, h4, h5⟩ := h
  exact ⟨X, Y, h1.fr hf (fun k hk h => (h4 k h).1 hk), h2.fr hf (fun k hk h => (h4 k h).2.1 hk), h3, fun k hk => ⟨(h4 k hk).1, (h4 k hk).2.1, Nat.lt_of_lt_of_le (h4 k hk).2.2 hf.size⟩, (h5.trans hf).mono (fun k hk h => by rcases h with h | h; exact h; (have := hG k h; omega))⟩
def RAddC (w1 : World) (rt ps N : Nat) (L : List Itm) (P : List Ps.Pt) (G : Nat → Prop) (p : Itm) (W0 W : World) (e : Ending) (W' : World) : Prop :=
  Fr W W' (Zt w1 W0 G) ∧ ((rightB p.per = false ∧ e = .returned (.int .i64 40) ∧ TT w1 rt ps N L P G W') ∨ (rightB p.per = true ∧ (∃ q ∈ L, q.id = p.id) ∧ e = .returned (.int .i64 90) ∧ TT w1 rt ps N L P G W') ∨
    (rightB p.per = true ∧ (∀ q ∈ L, q.id ≠ p.id) ∧ e = .returned (.int .i64 0) ∧ TT w1 rt ps (N + 1) (L ++ [p]) P G W'))
/-- A change of the tree of periods alone. -/
theorem TT.turn {X Y X' : Nat → Prop} {W' : World} {N' : Nat} {L' : List Itm} (q1 : RT W w1.heap.size rt N L X) (q2 : Ps.TR W w1.heap.size ps P Y) (q3 : ∀ k, X k → ¬ Y k) (q4 : ∀ k, G k → ¬ X k ∧ ¬ Y k ∧ k < W.heap.size) (q5 : Fr w1 W (fun _ => False))
    (r1 : RT W' w1.heap.size rt N' L' X') (r2 : ∀ k, X' k → X k ∨ W.heap.size ≤ k) (f : Fr W W' X) : TT w1 rt ps N' L' P G W' := by
  refine ⟨X', Y, r1, q2.fr f (fun k hk h => q3 k h hk), fun k hk hy => ?_, fun k hk => ⟨fun h => ?_, (q4 k hk).2.1, Nat.lt_of_lt_of_le (q4 k hk).2.2 f.size⟩, (q5.trans f).mono (fun k hk h => ?_)⟩
  · rcases r2 k hk with h | h
    · exact q3 k h hy
    · have := (q2.lt k hy).2; omega
  · rcases r2 k h with h | h
    · exact (q4 k hk).1 h
    · have := (q4 k hk).2.2; omega
  · rcases h with h | h
    · exact h
    · have := (q1.lt k h).1; omega
theorem TT.radd (h : TT w1 rt ps N L P G W0) (hf : Fr W0 W (fun _ => False)) (id lo hi : Int) (hid : In64 id) (hN : N + 1 ≤ 1099511627776) :
    Calls Tryz.prog 6 #[.pointer (some ⟨rt, 0, none⟩), .int .i64 id, .agg #[.int .i64 lo, .int .i64 hi]] W (RAddC w1 rt ps N L P G ⟨id, lo, hi⟩ W0 W) := by
  have hF := h.fresh hf
  obtain ⟨X, Y, h1, h2, h3, h4, h5⟩ := h
  have hlt := h1.lt
  have q1 := h1.fr hf (fun _ _ h => h)
  have q2 := h2.fr hf (fun _ _ h => h)
  have q4 : ∀ k, G k → ¬ X k ∧ ¬ Y k ∧ k < W.heap.size := fun k hk => ⟨(h4 k hk).1, (h4 k hk).2.1, Nat.lt_of_lt_of_le (h4 k hk).2.2 hf.size⟩
  have q5 := fr_no h5 hf
  refine (add_any q1 id lo hi hid hN q5.size).mono ?_
  rintro e W' (⟨r, rfl, f⟩ | ⟨r, hq, rfl, f⟩ | ⟨r, hq, rfl, ⟨X', r1, r2⟩, f⟩)
  · exact ⟨f.mono (fun _ _ h => h.elim), .inl ⟨r, rfl, hF.fresh f⟩⟩
  · exact ⟨f.mono (fun _ _ h => h.elim), .inr (.inl ⟨r, hq, rfl, hF.fresh f⟩)⟩
  · exact ⟨f.mono (fun k _ h => ⟨(hlt k h).1, (hlt k h).2, fun hg => (h4 k hg).1 h⟩), .inr (.inr ⟨r, hq, rfl, TT.turn q1 q2 h3 q4 q5 r1 r2 f⟩)⟩
def RCutC (w1 : World) (rt ps N : Nat) (L : List Itm) (P : List Ps.Pt) (G : Nat → Prop) (id : Int) (W0 W : World) (e : Ending) (W' : World) : Prop :=
  Fr W W' (Zt w1 W0 G) ∧ (((∀ q ∈ L, q.id ≠ id) ∧ e = .returned (.int .i64 4) ∧ TT w1 rt ps N L P G W') ∨ ((∃ q ∈ L, q.id = id) ∧ e = .returned (.int .i64 0) ∧ TT w1 rt ps N (without L id) P G W'))
theorem TT.rcut (h : TT w1 rt ps N L P G W0) (hf : Fr W0 W (fun _ => False)) (id : Int) (hid : In64 id) (hN : N ≤ 1099511627776) :
    Calls Tryz.prog 7 #[.pointer (some ⟨rt, 0, none⟩), .int .i64 id] W (RCutC w1 rt ps N L P G id W0 W) := by
  have hF := h.fresh hf
  obtain ⟨X, Y, h1, h2, h3, h4, h5⟩ := h
  have hlt := h1.lt
  have q1 := h1.fr hf (fun _ _ h => h)
  have q2 := h2.fr hf (fun _ _ h => h)
  have q4 : ∀ k, G k → ¬ X k ∧ ¬ Y k ∧ k < W.heap.size := fun k hk => ⟨(h4 k hk).1, (h4 k hk).2.1, Nat.lt_of_lt_of_le (h4 k hk).2.2 hf.size⟩
  have q5 := fr_no h5 hf
  refine (rcut_any q1 id hid hN q5.size).mono ?_
  rintro e W' (⟨hq, rfl, f⟩ | ⟨hq, rfl, ⟨X', r1, r2⟩, f⟩)
  · exact ⟨f.mono (fun _ _ h => h.elim), .inl ⟨hq, rfl, hF.fresh f⟩⟩
  · exact ⟨f.mono (fun k _ h => ⟨(hlt k h).1, (hlt k h).2, fun hg => (h4 k hg).1 h⟩), .inr ⟨hq, rfl, TT.turn q1 q2 h3 q4 q5 r1 r2 f⟩⟩
theorem TT.rover (h : TT w1 rt ps N L P G W) (lo hi : Int) (hN : N ≤ 17179869184) :
    Calls Tryz.prog 11 #[.pointer (some ⟨rt, 0, none⟩), .agg #[.int .i64 lo, .int .i64 hi]] W fun e W' => Fr W W' (Zt w1 W G) ∧ TT w1 rt ps (N + 42) L P G W' ∧ ∃ (v : Value) (A : List Int), e = .returned (.tuple #[v, .int .i64 (codeP ⟨lo, hi⟩)]) ∧ OwnI W' v A ∧ (rightB ⟨lo, hi⟩ = true → OvA L ⟨lo, hi⟩ A) ∧ (rightB ⟨lo, hi⟩ = false → A = []) := by
  obtain ⟨X, Y, h1, h2, h3, h4, h5⟩ := h
  have hlt := h1.lt
  refine (roverlap_any h1 lo hi hN h5.size).mono ?_
  rintro e W' ⟨v, A, rfl, r1, r2, r3, r4, r5, r6⟩
  exact ⟨r6.mono (fun k _ h => ⟨(hlt k h).1, (hlt k h).2, fun hg => (h4 k hg).1 h⟩), TT.turn h1 h2 h3 h4 h5 r5 (fun k hk => .inl hk) r6, v, A, rfl, r1, r2, r3⟩
/-- A change of the tree of points alone. -/
theorem TT.turnP {X Y Y' : Nat → Prop} {W' : World} {P' : List Ps.Pt} (q1 : RT W w1.heap.size rt N L X) (q2 : Ps.TR W w1.heap.size ps P Y) (q3 : ∀ k, X k → ¬ Y k) (q4 : ∀ k, G k → ¬ X k ∧ ¬ Y k ∧ k < W.heap.size) (q5 : Fr w1 W (fun _ => False))
    (r1 : Ps.TR W' w1.heap.size ps P' Y') (r2 : ∀ k, Y' k → Y k ∨ W.heap.size ≤ k) (f : Fr W W' Y) : TT w1 rt ps N L P' G W' := by
  refine ⟨X, Y', q1.fr f (fun k hk h => q3 k hk h), r1, fun k hk hy => ?_, fun k hk => ⟨(q4 k hk).1, fun h => ?_, Nat.lt_of_lt_of_le (q4 k hk).2.2 f.size⟩, (q5.trans f).mono (fun k hk h => ?_)⟩
  · rcases r2 k hy with h | h
    · exact q3 k hk h
    · have := (q1.lt k hk).2; omega
  · rcases r2 k h with h | h
    · exact (q4 k hk).2.1 h
    · have := (q4 k hk).2.2; omega
  · rcases h with h | h
    · exact h
    · have := (q2.lt k h).1; omega
theorem TT.padd (h : TT w1 rt ps N L P G W) (p : Ps.Pt) (hid : In64 p.id) (hnew : ∀ q ∈ P, q.id ≠ p.id) (hsz : P.length + 1 ≤ 1099511627776) :
    Calls Tryz.prog 8 #[.pointer (some ⟨ps, 0, none⟩), p.agg] W fun e W' => e = .returned (.int .i64 0) ∧ Fr W W' (Zt w1 W G) ∧ TT w1 rt ps N L (p :: P) G W' := by
  obtain ⟨X, Y, h1, h2, h3, h4, h5⟩ := h
  have hlt := h2.lt
  refine (Ps.addT_any h2 p hid hnew hsz h5.size).mono ?_
  rintro e W' ⟨rfl, ⟨Y', r1, r2⟩, f⟩
  exact ⟨rfl, f.mono (fun k _ h => ⟨(hlt k h).1, (hlt k h).2, fun hg => (h4 k hg).2.1 h⟩), TT.turnP h1 h2 h3 h4 h5 r1 r2 f⟩
theorem TT.pcut (h : TT w1 rt ps N L P G W) (y : Ps.Pt) (hid : In64 y.id) (hy : y ∈ P) (hsz : P.length ≤ 1099511627776) :
    Calls Tryz.prog 10 #[.pointer (some ⟨ps, 0, none⟩), .int .i64 y.id] W fun e W' => e = .returned (.int .i64 0) ∧ Fr W W' (Zt w1 W G) ∧ ∃ M, (y :: M).Perm P ∧ TT w1 rt ps N L M G W' := by
  obtain ⟨X, Y, h1, h2, h3, h4, h5⟩ := h
  have hlt := h2.lt
  refine (Ps.cutT_any h2 y hid hy hsz h5.size).mono ?_
  rintro e W' ⟨rfl, ⟨M, Y', r1, r3, r2⟩, f⟩
  exact ⟨rfl, f.mono (fun k _ h => ⟨(hlt k h).1, (hlt k h).2, fun hg => (h4 k hg).2.1 h⟩), M, r3, TT.turnP h1 h2 h3 h4 h5 r1 r2 f⟩
theorem TT.pcutNo (h : TT w1 rt ps N L P G W) (id : Int) (hid : In64 id) (hno : ∀ q ∈ P, q.id ≠ id) :
    Calls Tryz.prog 10 #[.pointer (some ⟨ps, 0, none⟩), .int .i64 id] W fun e W' => e = .returned (.int .i64 4) ∧ W' = W := by
  obtain ⟨X, Y, h1, h2, h3, h4, h5⟩ := h
  exact Ps.cutT_none h2 id hid hno
theorem TT.pfind (h : TT w1 rt ps N L P G W) (hsz : P.length ≤ 1099511627776) (lo hi le : Int) :
    Calls Tryz.prog 12 #[.pointer (some ⟨ps, 0, none⟩), .int .i64 lo, .int .i64 hi, .int .i64 le] W fun e W' => Ps.FindPost W P lo hi le e W' := by
  obtain ⟨X, Y, h1, h2, h3, h4, h5⟩ := h
  exact Ps.findT_any h2 hsz lo hi le
end
/-- A period with its number as a point. -/
def ptI (q : Itm) : Ps.Pt := ⟨q.lo, q.hi, q.id⟩
theorem Bools.put {w : World} {g n : Nat} {f : Nat → Bool} (h : Ps.Bools w g n f) (i : Nat) (hi : i < n) (b : Bool) : Ps.Bools (w.setCell ⟨g, i, none⟩ (.bool b)) g n (fun j => if j = i then b else f j) := by
  refine ⟨by simpa [World.setCell] using h.1, fun k => by have := World.frozen?_setCells g [.bool b] i w ⟨g, k, none⟩; simp only [World.setCells] at this; rw [this]; exact h.2.1 k, fun j hj => ?_⟩
  by_cases hji : j = i
  · subst hji
    show _ = some (Value.bool (if j = j then b else f j))
    rw [if_pos rfl]
    exact World.cell?_setCell_same _ _ _ (h.2.2 j hj)
  · show _ = some (Value.bool (if j = i then b else f j))
    rw [if_neg hji]
    have := World.cell?_setCells_out g [.bool b] i w ⟨g, j, none⟩ (fun _ _ => by show j < i ∨ i + 1 ≤ j; omega)
    simp only [World.setCells] at this
    rw [this]
    exact h.2.2 j hj
end Go.Proofs.YtigkinakhijfoaaGreat
