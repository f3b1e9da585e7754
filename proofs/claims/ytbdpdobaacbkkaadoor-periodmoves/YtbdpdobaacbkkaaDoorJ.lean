/- Union's step, plainly: one period more behind those that begin no later. Rows of periods that are changed. -/
import Derived.Test.YtbdpdobaacbkkaaDoorI
import Derived.Test.YtbdpdobaacbkkaaDoorKr
namespace Go.Proofs.YtbdpdobaacbkkaaDoor
open Go.RowKit
set_option linter.unusedVariables false

theorem mem_snoc (O : List Per) (p : Per) (t : Int) : Mem (O ++ [p]) t ↔ Mem O t ∨ Has p t := by
  constructor
  · rintro ⟨x, hx, h⟩
    rcases List.mem_append.1 hx with hx | hx
    · exact .inl ⟨x, hx, h⟩
    · simp at hx; subst hx; exact .inr h
  · rintro (⟨x, hx, h⟩ | h)
    · exact ⟨x, by simp [hx], h⟩
    · exact ⟨p, by simp, h⟩
/-- It begins within the last one, or where that ends: they become one. -/
theorem merge_spec (I : List Per) (q p : Per) (hc : Canon (I ++ [q])) (hp : p.lo < p.hi) (h1 : q.lo ≤ p.lo) (h2 : p.lo ≤ q.hi) :
    Canon (I ++ [⟨q.lo, max q.hi p.hi⟩]) ∧ ∀ t, Mem (I ++ [⟨q.lo, max q.hi p.hi⟩]) t ↔ Mem (I ++ [q]) t ∨ Has p t := by
  rw [canon_snoc] at hc
  obtain ⟨c1, c2, c3⟩ := hc
  refine ⟨(canon_snoc _ _).2 ⟨c1, by simp only; omega, c3⟩, fun t => ?_⟩
  rw [mem_snoc, mem_snoc]
  unfold Has
  simp only
  constructor
  · rintro (h | ⟨h3, h4⟩)
    · exact .inl (.inl h)
    · by_cases h5 : t < q.hi
      · exact .inl (.inr ⟨h3, h5⟩)
      · exact .inr ⟨by omega, by omega⟩
  · rintro ((h | ⟨h3, h4⟩) | ⟨h3, h4⟩)
    · exact .inl h
    · exact .inr ⟨h3, by omega⟩
    · exact .inr ⟨by omega, by omega⟩
theorem extend_spec (O : List Per) (p : Per) (hc : Canon O) (hp : p.lo < p.hi) (h : ∀ q, O.getLast? = some q → q.hi < p.lo) : Canon (O ++ [p]) ∧ ∀ t, Mem (O ++ [p]) t ↔ Mem O t ∨ Has p t :=
  ⟨(canon_snoc _ _).2 ⟨hc, hp, h⟩, fun t => mem_snoc O p t⟩

/-- What Union has made of those that it has seen. -/
structure Made (S O : List Per) : Prop where
  canon : Canon O
  mem : ∀ t, Mem O t ↔ Mem S t
  lo : ∀ q ∈ O, ∃ p ∈ S, q.lo = p.lo
  hi : ∀ q ∈ O, ∃ p ∈ S, q.hi = p.hi
  len : O.length ≤ S.length
theorem Made.nil : Made [] [] := ⟨trivial, fun _ => Iff.rfl, by simp, by simp, by simp⟩
theorem Made.more {S O : List Per} {p : Per} (h : Made S O) (hp : p.lo < p.hi) (hl : ∀ q, O.getLast? = some q → q.hi < p.lo) : Made (S ++ [p]) (O ++ [p]) := by
  obtain ⟨h1, h2⟩ := extend_spec O p h.canon hp hl
  refine ⟨h1, fun t => by rw [h2, mem_snoc, h.mem], ?_, ?_, by have := h.len; simp; omega⟩
  · intro q hq
    rcases List.mem_append.1 hq with hq | hq
    · obtain ⟨x, hx, e⟩ := h.lo q hq; exact ⟨x, by simp [hx], e⟩
    · simp at hq; subst hq; exact ⟨q, by simp, rfl⟩
  · intro q hq
    rcases List.mem_append.1 hq with hq | hq
    · obtain ⟨x, hx, e⟩ := h.hi q hq; exact ⟨x, by simp [hx], e⟩
    · simp at hq; subst hq; exact ⟨q, by simp, rfl⟩
theorem Made.merge {S I : List Per} {q p : Per} (h : Made S (I ++ [q])) (hp : p.lo < p.hi) (hs : ∀ x ∈ S, x.lo ≤ p.lo) (h2 : p.lo ≤ q.hi) : Made (S ++ [p]) (I ++ [⟨q.lo, max q.hi p.hi⟩]) := by
  obtain ⟨x, hx, ex⟩ := h.lo q (by simp)
  obtain ⟨y, hy, ey⟩ := h.hi q (by simp)
  obtain ⟨h1, h3⟩ := merge_spec I q p h.canon hp (by rw [ex]; exact hs x hx) h2
  refine ⟨h1, fun t => by rw [h3, mem_snoc S, h.mem], ?_, ?_, by have := h.len; simp at this ⊢; omega⟩
  · intro z hz
    rcases List.mem_append.1 hz with hz | hz
    · obtain ⟨x, hx, e⟩ := h.lo z (by simp [hz]); exact ⟨x, by simp [hx], e⟩
    · simp at hz; subst hz; exact ⟨x, by simp [hx], ex⟩
  · intro z hz
    rcases List.mem_append.1 hz with hz | hz
    · obtain ⟨x, hx, e⟩ := h.hi z (by simp [hz]); exact ⟨x, by simp [hx], e⟩
    · simp at hz; subst hz
      simp only
      rcases Int.le_total q.hi p.hi with h4 | h4
      · exact ⟨p, by simp, by omega⟩
      · exact ⟨y, by simp [hy], by omega⟩

theorem OwnP.thawed {w : World} {g n c : Nat} {L : List Per} (h : OwnP w (.slice (some ⟨g, 0, none⟩) n c) L) (j : Nat) : w.frozen? ⟨g, j, none⟩ = false := by
  rcases h.2 with ⟨h1, _⟩ | ⟨g', cap, cur, hv, _, hg, _⟩
  · cases h1
  · simp only [Value.slice.injEq, Option.some.injEq, Addr.mk.injEq, and_true] at hv
    obtain ⟨rfl, _⟩ := hv
    simp [World.frozen?, hg]
theorem encP_cons (x : Per) (L : List Per) : encP (x :: L) = .int .i64 x.lo :: .int .i64 x.hi :: encP L := by simp [encP, cellsP]
theorem encP_set1 (L : List Per) : ∀ (j : Nat) (p : Per) (x : Int), L[j]? = some p → (encP L).set (j * 2 + 1) (.int .i64 x) = encP (L.set j ⟨p.lo, x⟩) := by
  induction L with
  | nil => intro j p x h; simp at h
  | cons y L ih =>
    intro j p x h
    cases j with
    | zero => simp at h; subst h; simp [encP_cons]
    | succ j =>
      simp at h
      have e : (j + 1) * 2 + 1 = (j * 2 + 1) + 1 + 1 := by omega
      rw [e, encP_cons, List.set_cons_succ, List.set_cons_succ, ih j p x h, List.set_cons_succ, encP_cons]
theorem encP_set0 (L : List Per) : ∀ (j : Nat) (p : Per) (x : Int), L[j]? = some p → (encP L).set (j * 2) (.int .i64 x) = encP (L.set j ⟨x, p.hi⟩) := by
  induction L with
  | nil => intro j p x h; simp at h
  | cons y L ih =>
    intro j p x h
    cases j with
    | zero => simp at h; subst h; simp [encP_cons]
    | succ j =>
      simp at h
      have e : (j + 1) * 2 = (j * 2) + 1 + 1 := by omega
      rw [e, encP_cons, List.set_cons_succ, List.set_cons_succ, ih j p x h, List.set_cons_succ, encP_cons]
theorem own_set {w : World} {g n c : Nat} {L M : List Per} (h : OwnP w (.slice (some ⟨g, 0, none⟩) n c) L) (i : Nat) (u : Value) (hM : M.length = L.length) (he : (encP L).set i u = encP M) : OwnP (w.setCell ⟨g, i, none⟩ u) (.slice (some ⟨g, 0, none⟩) n c) M := by
  unfold OwnP at *
  rw [hM]
  refine ⟨by rw [length_encP, hM], ?_⟩
  rcases h.2 with ⟨h1, _⟩ | ⟨g', cap, cur, hv, h0, hg, h2, h3, h4, h5⟩
  · cases h1
  · refine .inr ⟨g', cap, cur.setIfInBounds i u, hv, h0, ?_, h2, h3, by simpa using h4, ?_⟩
    · simp only [Value.slice.injEq, Option.some.injEq, Addr.mk.injEq, and_true] at hv
      obtain ⟨rfl, _⟩ := hv
      exact heap_setCell_here _ _ _ _ _ _ _ hg
    · rw [Array.toList_setIfInBounds, List.take_set, h5, he]
theorem OwnP.put1 {w : World} {g n c : Nat} {L : List Per} (h : OwnP w (.slice (some ⟨g, 0, none⟩) n c) L) (j : Nat) (p : Per) (hp : L[j]? = some p) (x : Int) : OwnP (w.setCell ⟨g, j * 2 + 1, none⟩ (.int .i64 x)) (.slice (some ⟨g, 0, none⟩) n c) (L.set j ⟨p.lo, x⟩) :=
  own_set h _ _ (by simp) (encP_set1 L j p x hp)
theorem OwnP.put0 {w : World} {g n c : Nat} {L : List Per} (h : OwnP w (.slice (some ⟨g, 0, none⟩) n c) L) (j : Nat) (p : Per) (hp : L[j]? = some p) (x : Int) : OwnP (w.setCell ⟨g, j * 2, none⟩ (.int .i64 x)) (.slice (some ⟨g, 0, none⟩) n c) (L.set j ⟨x, p.hi⟩) :=
  own_set h _ _ (by simp) (encP_set0 L j p x hp)
/-- The row has a block where it isn't empty. -/
theorem OwnP.some {w : World} {v : Value} {L : List Per} (h : OwnP w v L) (hL : 0 < L.length) : ∃ g c, v = .slice (some ⟨g, 0, none⟩) L.length c ∧ L.length ≤ c := by
  rcases h.2 with ⟨h1, h2⟩ | ⟨g, cap, cur, hv, _, _, hle, _⟩
  · omega
  · exact ⟨g, cap, hv, hle⟩
end Go.Proofs.YtbdpdobaacbkkaaDoor
