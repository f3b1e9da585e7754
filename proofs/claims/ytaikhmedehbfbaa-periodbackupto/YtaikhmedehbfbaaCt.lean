/- Periods behind a row of the call's own; one after the other, plainly. -/
import Derived.Test.YtaikhmedehbfbaaAw
namespace Go.Proofs.Ytaikhmedehbfbaa
open Go.RowKit
set_option linter.unusedVariables false

theorem pers_cells {w : World} {g off : Nat} {M : List Per} (h : Pers w (some ⟨g, off, none⟩) M) : ∀ j u, (encP M)[j]? = some u → w.cell? ((⟨g, off, none⟩ : Addr).add j) = some u := by
  intro j u hu
  rw [Addr.add_mid]
  have hj : j < M.length * 2 := by have := (List.getElem?_eq_some_iff.1 hu).1; rw [length_encP] at this; exact this
  obtain ⟨p, hp⟩ : ∃ p, M[j / 2]? = some p := ⟨_, List.getElem?_eq_getElem (by omega)⟩
  rcases h with h | ⟨g', off', he, hc⟩
  · subst h; simp at hp
  · simp only [Option.some.injEq, Addr.mk.injEq, and_true] at he
    obtain ⟨rfl, rfl⟩ := he
    obtain ⟨h0, h1⟩ := hc (j / 2) p hp
    have e := encP_get M (j / 2) p hp (j % 2) (Nat.mod_lt _ (by omega))
    rw [show j / 2 * 2 + j % 2 = j by omega, hu] at e
    rcases Nat.mod_two_eq_zero_or_one j with h2 | h2
    · rw [h2] at e
      rw [show off + j = off + j / 2 * 2 by omega, h0]
      exact e.symm
    · rw [h2] at e
      rw [show off + j = off + j / 2 * 2 + 1 by omega, h1]
      exact e.symm
/-- Periods go behind a row of the call's own. -/
theorem wpList_catP {w : World} {ops : Array Oper} {rest : List Oper} {o : Oper} {act : Act} {Q : Exit → Act → World → Prop} (hgd : o.guard = none) (s x : Operand)
    (ho : o.op = .call { callee := .builtin .append, args := #[s, x], argTypes := #[24, 24] }) (v : Value) (L : List Per) (hs : act.eval s = v) (hown : OwnP w v L)
    (ax : Option Addr) (cx : Nat) (M : List Per) (hx : act.eval x = .slice ax M.length cx) (hm : Pers w ax M) (hc : ax = none → cx = 0) (hspot : ∀ z, ax = some z → z.spot = none) (hlen : L.length + M.length ≤ 8796093022208)
    (h : ∀ v' w', OwnP w' v' (L ++ M) → Fr w w' (fun k => v.ownBlock = some k) → Fresh w v v' → wpList Try.prog ops Q rest (act.put o.dst v') w') : wpList Try.prog ops Q (o :: rest) act w := by
  obtain ⟨i, hi, hz, hs9, hby⟩ := full23
  cases ax with
  | none =>
    have hM : M = [] := by rcases hm with h1 | ⟨_, _, h1, _⟩; exact h1; cases h1
    subst hM
    rw [hc rfl] at hx
    have hr := run_append_owned_none (P := Try.prog) w 0 24 o.type 23 i 2 Try.underlying24 hi v L.length (encP L) hown
    refine wpList_plain hgd fun _ hK => wp_append_to s x 24 ho _ rfl _ rfl _ _ hs hx _ _ hr (hK _ _ (h v w ?_ (Fr.refl _ _) (.inl rfl)))
    rw [List.append_nil]; exact hown
  | some z =>
    obtain ⟨g, off, spot⟩ := z
    obtain rfl : spot = none := hspot _ rfl
    obtain ⟨v', w', hr, q1, q2, q3⟩ := run_append_gen (P := Try.prog) w 24 o.type 23 i _ 2 16 Try.underlying24 hi hz hs9 hby rfl (by omega) v L.length (encP L) hown ⟨g, off, none⟩ M.length cx (encP M) (by rw [length_encP])
      (pers_cells hm) (encP_oneCell M) (by unfold maxLen; omega) (by omega)
    refine wpList_plain hgd fun _ hK => wp_append_to s x 24 ho _ rfl _ rfl _ _ hs hx _ _ hr (hK _ _ (h v' w' ?_ (Fr.grown q2) q3))
    unfold OwnP; rw [List.length_append, encP_append]; exact q1

theorem canon_append : ∀ {N M : List Per}, Canon N → Canon M → (∀ q ∈ N, ∀ r ∈ M, q.hi < r.lo) → Canon (N ++ M)
  | [], M, _, hm, _ => hm
  | [a], [], hn, _, _ => by simpa using hn
  | [a], b :: M, hn, hm, h => ⟨hn, h a (by simp) b (by simp), hm⟩
  | a :: b :: N, M, hn, hm, h => ⟨hn.1, hn.2.1, canon_append (N := b :: N) hn.2.2 hm (fun q hq => h q (List.mem_cons_of_mem _ hq))⟩
theorem mem_append (N M : List Per) (t : Int) : Mem (N ++ M) t ↔ Mem N t ∨ Mem M t := by
  constructor
  · rintro ⟨x, hx, h⟩
    rcases List.mem_append.1 hx with hx | hx
    · exact .inl ⟨x, hx, h⟩
    · exact .inr ⟨x, hx, h⟩
  · rintro (⟨x, hx, h⟩ | ⟨x, hx, h⟩)
    · exact ⟨x, by simp [hx], h⟩
    · exact ⟨x, by simp [hx], h⟩
/-- What is left lies within. -/
theorem minus_within {x : Per} {L M : List Per} (h : IsMinus x L M) (r : Per) (hr : r ∈ M) : x.lo ≤ r.lo ∧ r.hi ≤ x.hi := by
  have hlt := canon_each h.canon hr
  obtain ⟨_, h1, _⟩ := (h.mem r.lo).1 ⟨r, hr, Int.le_refl _, hlt⟩
  obtain ⟨_, h2, _⟩ := (h.mem (r.hi - 1)).1 ⟨r, hr, by omega, by omega⟩
  exact ⟨h1.1, by have := h2.2; omega⟩
/-- Two are left only where what is taken off lies within. -/
theorem minus_two {x p : Per} {M : List Per} (h : IsMinus x [p] M) (h2 : 2 ≤ M.length) : p.lo < p.hi ∧ x.lo < p.lo ∧ p.hi < x.hi := by
  match M, h2 with
  | m0 :: m1 :: r, _ =>
    have hc := h.canon
    have c1 := hc.1
    have c2 := hc.2.1
    have c3 := hc.2.2.head
    obtain ⟨hx, a1, a2⟩ := (h.mem m0.lo).1 ⟨m0, by simp, Int.le_refl _, c1⟩
    obtain ⟨_, b1, b2⟩ := (h.mem m1.lo).1 ⟨m1, by simp, Int.le_refl _, c3⟩
    have hno : ¬ Mem (m0 :: m1 :: r) m0.hi := by
      rintro ⟨q, hq, h3, h4⟩
      rcases List.mem_cons.1 hq with rfl | hq
      · omega
      · have := hc.later q hq; omega
    have hin : In [p] m0.hi := by
      by_cases hn : In [p] m0.hi
      · exact hn
      · exact absurd ((h.mem m0.hi).2 ⟨hx, ⟨by have := a1.1; omega, by have := b1.2; omega⟩, hn⟩) hno
    obtain ⟨q, hq, hq1, hq2⟩ := hin
    simp at hq
    subst hq
    have e1 : ¬ Has q m0.lo := fun hh => a2 ⟨q, by simp, hq1, hh⟩
    have e2 : ¬ Has q m1.lo := fun hh => b2 ⟨q, by simp, hq1, hh⟩
    unfold Has at *
    have := hq1.2.1
    omega

/-- What is left of the first j, each without one. -/
structure Nexts (X : List Per) (p : Per) (j : Nat) (N : List Per) : Prop where
  canon : Canon N
  mem : ∀ t, Mem N t ↔ Mem (X.take j) t ∧ ¬ In [p] t
  right : ∀ q ∈ N, Right q
  within : ∀ q ∈ N, ∃ x ∈ X.take j, q.hi ≤ x.hi
  len : N.length ≤ j ∨ (N.length ≤ j + 1 ∧ p.lo < p.hi ∧ ∃ x ∈ X.take j, x.lo < p.lo ∧ p.hi < x.hi)
theorem Nexts.start (X : List Per) (p : Per) : Nexts X p 0 [] :=
  ⟨trivial, fun t => ⟨fun h => absurd h (mem_nil t), fun h => h.1⟩, by simp, by simp, .inl (by simp)⟩
theorem canon_rising : ∀ {X : List Per} {i j : Nat} {y x : Per}, Canon X → i < j → X[i]? = some y → X[j]? = some x → y.hi < x.lo
  | [], _, _, _, _, _, _, h, _ => by simp at h
  | a :: r, 0, j + 1, y, x, hc, _, hy, hx => by
    simp at hy
    subst hy
    rw [List.getElem?_cons_succ] at hx
    exact (hc.later x (List.mem_of_getElem? hx)).1
  | a :: r, i + 1, j + 1, y, x, hc, hij, hy, hx => by
    rw [List.getElem?_cons_succ] at hx hy
    exact canon_rising hc.tail (by omega) hy hx
theorem canon_before {X : List Per} (hc : Canon X) {j : Nat} {x : Per} (hx : X[j]? = some x) : ∀ y ∈ X.take j, y.hi < x.lo := by
  intro y hy
  obtain ⟨i, hi⟩ := List.mem_iff_getElem?.1 hy
  have hij : i < j := by have := (List.getElem?_eq_some_iff.1 hi).1; simp at this; omega
  rw [List.getElem?_take_of_lt hij] at hi
  exact canon_rising hc hij hi hx
theorem Nexts.step {X : List Per} {p : Per} {j : Nat} {N M : List Per} {x : Per} (h : Nexts X p j N) (hc : Canon X) (hr : ∀ q ∈ X, Right q) (hx : X[j]? = some x) (hm : IsMinus x [p] M) : Nexts X p (j + 1) (N ++ M) := by
  have hb := canon_before hc hx
  have hrx := hr x (List.mem_of_getElem? hx)
  refine ⟨canon_append h.canon hm.canon (fun q hq r hr' => ?_), fun t => ?_, fun q hq => ?_, fun q hq => ?_, ?_⟩
  · obtain ⟨y, hy, h1⟩ := h.within q hq
    have := hb y hy
    have := minus_within hm r hr'
    omega
  · rw [mem_append, h.mem, take_snoc X j x hx, mem_snoc, hm.mem]
    constructor
    · rintro (⟨h1, h2⟩ | ⟨_, h1, h2⟩)
      · exact ⟨.inl h1, h2⟩
      · exact ⟨.inr h1, h2⟩
    · rintro ⟨h1 | h1, h2⟩
      · exact .inl ⟨h1, h2⟩
      · exact .inr ⟨hrx, h1, h2⟩
  · rcases List.mem_append.1 hq with hq | hq
    · exact h.right q hq
    · exact hm.right q hq
  · rw [take_snoc X j x hx]
    rcases List.mem_append.1 hq with hq | hq
    · obtain ⟨y, hy, h1⟩ := h.within q hq
      exact ⟨y, by simp [hy], h1⟩
    · exact ⟨x, by simp, (minus_within hm q hq).2⟩
  · have hl := hm.len
    simp only [List.length_singleton] at hl
    rw [List.length_append]
    by_cases h2 : 2 ≤ M.length
    · obtain ⟨e0, e1, e2⟩ := minus_two hm h2
      right
      refine ⟨?_, e0, x, by rw [take_snoc X j x hx]; simp, e1, e2⟩
      rcases h.len with h3 | ⟨h3, _, y, hy, h4, h5⟩
      · omega
      · have := hb y hy; omega
    · rcases h.len with h3 | ⟨h3, h4, y, hy, h5⟩
      · left; omega
      · right; exact ⟨by omega, h4, y, by rw [take_snoc X j x hx]; simp [hy], h5⟩
theorem Nexts.fin {X : List Per} {p : Per} {N : List Per} (h : Nexts X p X.length N) {a : Per} {L : List Per} (hX : IsMinus a L X) : IsMinus a (L ++ [p]) N := by
  have e : ∀ t, In (L ++ [p]) t ↔ In L t ∨ In [p] t := fun t => by
    constructor
    · rintro ⟨q, hq, h1⟩
      rcases List.mem_append.1 hq with hq | hq
      · exact .inl ⟨q, hq, h1⟩
      · exact .inr ⟨q, hq, h1⟩
    · rintro (⟨q, hq, h1⟩ | ⟨q, hq, h1⟩)
      · exact ⟨q, by simp [hq], h1⟩
      · exact ⟨q, by simp at hq; simp [hq], h1⟩
  refine ⟨h.canon, fun t => ?_, h.right, ?_⟩
  · rw [h.mem, List.take_length, hX.mem, e]
    constructor
    · rintro ⟨⟨h1, h2, h3⟩, h4⟩
      exact ⟨h1, h2, by rintro (h5 | h5); exact h3 h5; exact h4 h5⟩
    · rintro ⟨h1, h2, h3⟩
      exact ⟨⟨h1, h2, fun h5 => h3 (.inl h5)⟩, fun h5 => h3 (.inr h5)⟩
  · have h1 := hX.len
    rw [List.length_append, List.length_singleton]
    rcases h.len with h3 | ⟨h3, _⟩ <;> omega
/-- Putting one more to the union. -/
theorem isUnion_more {L A B : List Per} {p : Per} (hA : IsUnion L A) (hB : IsUnion (A ++ [p]) B) : IsUnion (L ++ [p]) B := by
  refine ⟨hB.canon, fun t => ?_, hB.right, ?_, fun q hq => ?_, fun q hq => ?_⟩
  · rw [hB.mem]
    constructor
    · rintro ⟨q, hq, h1, h2⟩
      rcases List.mem_append.1 hq with hq | hq
      · obtain ⟨x, hx, h3⟩ := (hA.mem t).1 ⟨q, hq, h2⟩
        exact ⟨x, by simp [hx], h3⟩
      · exact ⟨q, by simp at hq; simp [hq], h1, h2⟩
    · rintro ⟨q, hq, h1, h2⟩
      rcases List.mem_append.1 hq with hq | hq
      · obtain ⟨x, hx, h3⟩ := (hA.mem t).2 ⟨q, hq, h1, h2⟩
        exact ⟨x, by simp [hx], hA.right x hx, h3⟩
      · exact ⟨q, by simp at hq; simp [hq], h1, h2⟩
  · have h1 := hA.len
    have h2 := hB.len
    simp at h2 ⊢
    omega
  · obtain ⟨x, hx, h1, h2⟩ := hB.lo q hq
    rcases List.mem_append.1 hx with hx | hx
    · obtain ⟨y, hy, h3, h4⟩ := hA.lo x hx
      exact ⟨y, by simp [hy], h3, by omega⟩
    · exact ⟨x, by simp at hx; simp [hx], h1, h2⟩
  · obtain ⟨x, hx, h1, h2⟩ := hB.hi q hq
    rcases List.mem_append.1 hx with hx | hx
    · obtain ⟨y, hy, h3, h4⟩ := hA.hi x hx
      exact ⟨y, by simp [hy], h3, by omega⟩
    · exact ⟨x, by simp at hx; simp [hx], h1, h2⟩
theorem isUnion_nil : IsUnion [] [] := ⟨trivial, fun t => ⟨fun h => absurd h (mem_nil t), fun ⟨q, hq, _⟩ => by cases hq⟩, by simp, by simp, by simp, by simp⟩
theorem isUnion_unique {L A B : List Per} (h1 : IsUnion L A) (h2 : IsUnion L B) : A = B := canon_unique A B h1.canon h2.canon (fun t => by rw [h1.mem, h2.mem])
theorem isMinus_unique {a : Per} {L A B : List Per} (h1 : IsMinus a L A) (h2 : IsMinus a L B) : A = B := canon_unique A B h1.canon h2.canon (fun t => by rw [h1.mem, h2.mem])
end Go.Proofs.Ytaikhmedehbfbaa
