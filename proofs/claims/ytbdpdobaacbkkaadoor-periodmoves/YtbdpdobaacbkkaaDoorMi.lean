/- One period without others, plainly. -/
import Derived.Test.YtbdpdobaacbkkaaDoorDr
namespace Go.Proofs.YtbdpdobaacbkkaaDoor
open Go.RowKit
set_option linter.unusedVariables false

theorem mem_nil (t : Int) : ¬ Mem [] t := by
  rintro ⟨p, hp, _⟩
  cases hp
/-- What Minus makes of a period and others. -/
structure IsMinus (a : Per) (L O : List Per) : Prop where
  canon : Canon O
  mem : ∀ t, Mem O t ↔ (Right a ∧ Has a t ∧ ¬ In L t)
  right : ∀ q ∈ O, Right q
  len : O.length ≤ L.length + 1
theorem isMinus_wrong (a : Per) (L : List Per) (h : ¬ Right a) : IsMinus a L [] :=
  ⟨trivial, fun t => ⟨fun h => absurd h (mem_nil t), fun h1 => absurd h1.1 h⟩, by simp, by simp⟩
theorem canon_next : ∀ {C : List Per} {j : Nat} {y x : Per}, Canon C → C[j]? = some y → C[j + 1]? = some x → y.hi < x.lo
  | [], _, _, _, _, h, _ => by simp at h
  | [_], 0, _, _, _, _, h => by simp at h
  | [_], j + 1, _, _, _, h, _ => by simp at h
  | a :: b :: r, 0, y, x, hc, h1, h2 => by simp at h1 h2; subst h1 h2; exact hc.2.1
  | a :: b :: r, j + 1, y, x, hc, h1, h2 => by
    rw [List.getElem?_cons_succ] at h1 h2
    exact canon_next hc.2.2 h1 h2
theorem canon_each : ∀ {C : List Per} {q : Per}, Canon C → q ∈ C → q.lo < q.hi
  | a :: r, q, hc, hq => by
    rcases List.mem_cons.1 hq with rfl | hq
    · exact hc.head
    · exact canon_each hc.tail hq

/-- Where Minus is: the first k of the cuts are behind it. -/
structure Cutting (a : Per) (C : List Per) (k : Nat) (f : Int) (O : List Per) : Prop where
  canon : Canon O
  mem : ∀ t, Mem O t ↔ (a.lo ≤ t ∧ t < f ∧ ¬ Mem (C.take k) t)
  last : ∀ q, O.getLast? = some q → q.hi < f
  at_ : (k = 0 ∧ f = a.lo) ∨ ∃ j y, k = j + 1 ∧ C[j]? = some y ∧ f = y.hi
  past : ∀ x ∈ C.take k, x.hi ≤ f
  lo : a.lo ≤ f
  right : ∀ q ∈ O, Right q
  len : O.length ≤ k
theorem Cutting.start (a : Per) (C : List Per) : Cutting a C 0 a.lo [] :=
  ⟨trivial, fun t => ⟨fun h => absurd h (mem_nil t), fun h => by omega⟩, by simp, .inl ⟨rfl, rfl⟩, by simp, by omega, by simp, by simp⟩
theorem Cutting.before {a : Per} {C : List Per} {k : Nat} {f : Int} {O : List Per} (h : Cutting a C k f O) (hc : Canon C) (x : Per) (hx : C[k]? = some x) (ha : a.lo < x.hi) : f < x.hi ∧ (f < x.lo ∨ (k = 0 ∧ f = a.lo)) := by
  have hx2 := canon_each hc (List.mem_of_getElem? hx)
  rcases h.at_ with ⟨h1, h2⟩ | ⟨j, y, rfl, hy, rfl⟩
  · exact ⟨by omega, .inr ⟨h1, h2⟩⟩
  · have := canon_next hc hy hx
    exact ⟨by omega, .inl this⟩
theorem Cutting.gap {a : Per} {C : List Per} {k : Nat} {f : Int} {O : List Per} (h : Cutting a C k f O) (hc : Canon C) (x : Per) (hx : C[k]? = some x) (hr : Right x) (ha : a.lo < x.hi) (h0 : 0 ≤ a.lo) (hf : f < x.lo) : Cutting a C (k + 1) x.hi (O ++ [⟨f, x.lo⟩]) := by
  have hb := h.before hc x hx ha
  have hm := take_snoc C k x hx
  obtain ⟨e1, e2⟩ := extend_spec O ⟨f, x.lo⟩ h.canon hf h.last
  have hl := h.lo
  refine ⟨e1, fun t => ?_, ?_, .inr ⟨k, x, rfl, hx, rfl⟩, ?_, by omega, ?_, by have := h.len; simp; omega⟩
  · rw [e2 t, h.mem t, hm, mem_snoc]
    unfold Has
    simp only
    have hr2 := hr.2.1
    constructor
    · rintro (⟨h1, h2, h3⟩ | ⟨h1, h2⟩)
      · exact ⟨h1, by omega, by rintro (h4 | h4); exact h3 h4; omega⟩
      · refine ⟨by omega, by omega, ?_⟩
        rintro (⟨y, hy, h3, h4⟩ | h4)
        · have := h.past y hy; omega
        · omega
    · rintro ⟨h1, h2, h3⟩
      by_cases h4 : t < f
      · exact .inl ⟨h1, h4, fun h5 => h3 (.inl h5)⟩
      · refine .inr ⟨by omega, ?_⟩
        by_cases h5 : x.lo ≤ t
        · exact absurd (.inr ⟨h5, h2⟩) h3
        · omega
  · intro q hq
    simp at hq
    subst hq
    exact hr.2.1
  · intro y hy
    rw [hm] at hy
    rcases List.mem_append.1 hy with hy | hy
    · have := h.past y hy; omega
    · simp at hy; subst hy; exact Int.le_refl _
  · intro q hq
    rcases List.mem_append.1 hq with hq | hq
    · exact h.right q hq
    · simp at hq; subst hq
      have := hr.1; have := hr.2.1; have := hr.2.2
      exact ⟨by simp only; omega, hf, by simp only; omega⟩
theorem Cutting.none {a : Per} {C : List Per} {k : Nat} {f : Int} {O : List Per} (h : Cutting a C k f O) (hc : Canon C) (x : Per) (hx : C[k]? = some x) (hr : Right x) (ha : a.lo < x.hi) (hf : ¬ f < x.lo) : Cutting a C (k + 1) x.hi O := by
  have hb := h.before hc x hx ha
  have hm := take_snoc C k x hx
  have hfa : f = a.lo := by rcases hb.2 with h1 | h1; exact absurd h1 hf; exact h1.2
  have hl := h.lo
  refine ⟨h.canon, fun t => ?_, fun q hq => by have := h.last q hq; omega, .inr ⟨k, x, rfl, hx, rfl⟩, ?_, by omega, h.right, by have := h.len; omega⟩
  · rw [h.mem t, hm, mem_snoc]
    unfold Has
    constructor
    · rintro ⟨h1, h2, h3⟩; omega
    · rintro ⟨h1, h2, h3⟩
      exact absurd (.inr ⟨by omega, h2⟩) h3
  · intro y hy
    rw [hm] at hy
    rcases List.mem_append.1 hy with hy | hy
    · have := h.past y hy; omega
    · simp at hy; subst hy; exact Int.le_refl _

theorem over_facts {a p : Per} (h : overB a p = true) : Right a ∧ Right p ∧ p.lo < a.hi ∧ a.lo < p.hi := by
  simp only [overB, Bool.and_eq_true, rightB_iff] at h
  obtain ⟨⟨h1, h2⟩, h3⟩ := h
  have := h3.2.1
  simp only [bothP] at this
  exact ⟨h1, h2, by omega, by omega⟩
theorem over_of_has {a p : Per} {t : Int} (ha : Right a) (hp : Right p) (h1 : Has a t) (h2 : Has p t) : overB a p = true := by
  simp only [overB, Bool.and_eq_true, rightB_iff]
  refine ⟨⟨ha, hp⟩, ?_⟩
  unfold Right bothP at *
  unfold Has at *
  simp only at *
  omega
theorem in_over {a : Per} {L : List Per} {t : Int} (ha : Right a) (h : Has a t) : In (L.filter (overB a)) t ↔ In L t := by
  constructor
  · rintro ⟨p, hp, h1, h2⟩; exact ⟨p, (List.mem_filter.1 hp).1, h1, h2⟩
  · rintro ⟨p, hp, h1, h2⟩; exact ⟨p, List.mem_filter.2 ⟨hp, over_of_has ha h1 h h2⟩, h1, h2⟩
/-- The cuts all touch the period. -/
theorem cut_facts {a : Per} {L C : List Per} (hu : IsUnion (L.filter (overB a)) C) (x : Per) (hx : x ∈ C) : Right x ∧ x.lo < a.hi ∧ a.lo < x.hi := by
  obtain ⟨p, hp, _, e1⟩ := hu.lo x hx
  obtain ⟨q, hq, _, e2⟩ := hu.hi x hx
  have h1 := over_facts (List.mem_filter.1 hp).2
  have h2 := over_facts (List.mem_filter.1 hq).2
  exact ⟨hu.right x hx, by omega, by omega⟩
theorem Cutting.fin {a : Per} {L C : List Per} {f : Int} {O : List Per} (h : Cutting a C C.length f O) (hu : IsUnion (L.filter (overB a)) C) (ha : Right a) (hf : f < a.hi) : IsMinus a L (O ++ [⟨f, a.hi⟩]) := by
  obtain ⟨e1, e2⟩ := extend_spec O ⟨f, a.hi⟩ h.canon hf h.last
  have hl := h.lo
  refine ⟨e1, fun t => ?_, ?_, ?_⟩
  · rw [e2 t, h.mem t, List.take_length, hu.mem]
    unfold Has
    simp only
    constructor
    · rintro (⟨h1, h2, h3⟩ | ⟨h1, h2⟩)
      · have hh : Has a t := ⟨h1, by omega⟩
        exact ⟨ha, ⟨h1, by omega⟩, fun h4 => h3 ((in_over ha hh).2 h4)⟩
      · have hh : Has a t := ⟨by omega, h2⟩
        refine ⟨ha, ⟨by omega, h2⟩, fun h4 => ?_⟩
        obtain ⟨y, hy, h5, h6⟩ := (hu.mem t).2 ((in_over ha hh).2 h4)
        have := h.past y (by rw [List.take_length]; exact hy)
        omega
    · rintro ⟨_, ⟨h1, h2⟩, h3⟩
      have hh : Has a t := ⟨h1, h2⟩
      by_cases h4 : t < f
      · exact .inl ⟨h1, h4, fun h5 => h3 ((in_over ha hh).1 h5)⟩
      · exact .inr ⟨by omega, h2⟩
  · intro q hq
    rcases List.mem_append.1 hq with hq | hq
    · exact h.right q hq
    · simp at hq; subst hq
      have := ha.1; have := ha.2.2
      exact ⟨by simp only; omega, hf, by simp only; omega⟩
  · have h1 := h.len
    have h2 := hu.len
    have h3 := List.length_filter_le (overB a) L
    simp
    omega
theorem Cutting.fin0 {a : Per} {L C : List Per} {f : Int} {O : List Per} (h : Cutting a C C.length f O) (hu : IsUnion (L.filter (overB a)) C) (ha : Right a) (hf : ¬ f < a.hi) : IsMinus a L O := by
  have hl := h.lo
  refine ⟨h.canon, fun t => ?_, h.right, ?_⟩
  · rw [h.mem t, List.take_length, hu.mem]
    constructor
    · rintro ⟨h1, h2, h3⟩
      by_cases h4 : t < a.hi
      · have hh : Has a t := ⟨h1, h4⟩
        exact ⟨ha, hh, fun h5 => h3 ((in_over ha hh).2 h5)⟩
      · exfalso
        rcases h.at_ with ⟨_, h6⟩ | ⟨j, y, _, hy, h6⟩
        · have := ha.2.1; omega
        · have hm := List.mem_of_getElem? hy
          have := cut_facts hu y hm
          exact h3 ((hu.mem t).1 ⟨y, hm, by omega, by omega⟩)
    · rintro ⟨_, hh, h3⟩
      exact ⟨hh.1, by have := hh.2; omega, fun h5 => h3 ((in_over ha hh).1 h5)⟩
  · have h1 := h.len
    have h2 := hu.len
    have h3 := List.length_filter_le (overB a) L
    omega
end Go.Proofs.YtbdpdobaacbkkaaDoor
