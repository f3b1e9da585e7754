/- A union, plainly. -/
import Derived.Test.YtlapifncplbcnaaGreatCp
namespace Go.Proofs.YtlapifncplbcnaaGreat
set_option linter.unusedVariables false
set_option linter.unusedSimpArgs false

/-- What a union is, while it is made. -/
structure UnI (S U : List Per) : Prop where
  ok : ∀ u ∈ U, u.lo < u.hi
  apart : U.Pairwise (fun a b => a.hi < b.lo)
  mem : ∀ t, (∃ p ∈ S, p.lo ≤ t ∧ t < p.hi) ↔ (∃ u ∈ U, u.lo ≤ t ∧ t < u.hi)
  lo : ∀ u ∈ U, ∃ p ∈ S, u.lo = p.lo
  len : U.length ≤ S.length
theorem UnI.nil : UnI [] [] := ⟨by simp, List.Pairwise.nil, by simp, by simp, Nat.le_refl _⟩
theorem UnI.push {S U : List Per} {p : Per} (h : UnI S U) (hp : p.lo < p.hi) (ha : ∀ u ∈ U, u.hi < p.lo) : UnI (S ++ [p]) (U ++ [p]) := by
  refine ⟨fun u hu => ?_, ?_, fun t => ?_, fun u hu => ?_, by have := h.len; simp; omega⟩
  · rcases List.mem_append.1 hu with hu | hu
    · exact h.ok u hu
    · rw [List.mem_singleton.1 hu]; exact hp
  · rw [List.pairwise_append]
    exact ⟨h.apart, by simp, fun a ha' b hb => by rw [List.mem_singleton.1 hb]; exact ha a ha'⟩
  · have := h.mem t
    simp only [List.mem_append, List.mem_singleton, or_and_right, exists_or, exists_eq_left] at this ⊢
    rw [this]
  · rcases List.mem_append.1 hu with hu | hu
    · obtain ⟨q, hq, e⟩ := h.lo u hu
      exact ⟨q, List.mem_append_left _ hq, e⟩
    · exact ⟨p, by simp, by rw [List.mem_singleton.1 hu]⟩
theorem UnI.grow {S U0 : List Per} {q p : Per} (h : UnI S (U0 ++ [q])) (hp : p.lo < p.hi) (h1 : q.lo ≤ p.lo) (h2 : p.lo ≤ q.hi) : UnI (S ++ [p]) (U0 ++ [⟨q.lo, max q.hi p.hi⟩]) := by
  have hq := h.ok q (by simp)
  have hap := List.pairwise_append.1 h.apart
  refine ⟨fun u hu => ?_, ?_, fun t => ?_, fun u hu => ?_, by have := h.len; simp at this ⊢; omega⟩
  · rcases List.mem_append.1 hu with hu | hu
    · exact h.ok u (List.mem_append_left _ hu)
    · rw [List.mem_singleton.1 hu]; simp only; omega
  · rw [List.pairwise_append]
    exact ⟨hap.1, by simp, fun a ha b hb => by rw [List.mem_singleton.1 hb]; exact hap.2.2 a ha q (by simp)⟩
  · have hm := h.mem t
    simp only [List.mem_append, List.mem_singleton, or_and_right, exists_or, exists_eq_left] at hm ⊢
    rw [hm]
    constructor
    · rintro ((h3 | h3) | h3)
      · exact .inl h3
      · exact .inr (by omega)
      · exact .inr (by omega)
    · rintro (h3 | h3)
      · exact .inl (.inl h3)
      · by_cases c : t < q.hi
        · exact .inl (.inr (by omega))
        · exact .inr (by omega)
  · rcases List.mem_append.1 hu with hu | hu
    · obtain ⟨r, hr, e⟩ := h.lo u (List.mem_append_left _ hu)
      exact ⟨r, List.mem_append_left _ hr, e⟩
    · obtain ⟨r, hr, e⟩ := h.lo q (by simp)
      exact ⟨r, List.mem_append_left _ hr, by rw [List.mem_singleton.1 hu]; exact e⟩
/-- The last one ends last. -/
theorem UnI.last {S U0 : List Per} {q : Per} (h : UnI S (U0 ++ [q])) : ∀ u ∈ U0 ++ [q], u.hi ≤ q.hi := by
  intro u hu
  have hq := h.ok q (by simp)
  rcases List.mem_append.1 hu with hu | hu
  · have := (List.pairwise_append.1 h.apart).2.2 u hu q (by simp)
    omega
  · rw [List.mem_singleton.1 hu]; exact Int.le_refl _
theorem srtP_after {T : List Per} (hs : SrtP T) {i j : Nat} {x y : Per} (hx : T[i]? = some x) (hy : T[j]? = some y) (hij : i ≤ j) : x.lo ≤ y.lo := by
  by_cases e : i = j
  · subst e; rw [hx] at hy; injection hy with hy; rw [hy]; exact Int.le_refl _
  · obtain ⟨h1, h2⟩ := List.getElem?_eq_some_iff.1 hx
    obtain ⟨h3, h4⟩ := List.getElem?_eq_some_iff.1 hy
    have := List.pairwise_iff_getElem.1 hs i j h1 h3 (by omega)
    rw [h2, h4] at this
    unfold cmpI at this
    by_cases c : y.lo < x.lo
    · rw [if_pos c] at this; omega
    · omega
theorem srtP_before {T : List Per} (hs : SrtP T) {k : Nat} {p : Per} (hp : T[k]? = some p) : ∀ q ∈ T.take k, q.lo ≤ p.lo := by
  intro q hq
  obtain ⟨i, hi⟩ := List.mem_iff_getElem?.1 hq
  have hl := (List.getElem?_eq_some_iff.1 hi).1
  rw [List.length_take] at hl
  rw [List.getElem?_take_of_lt (by omega)] at hi
  exact srtP_after hs hi hp (by omega)
/-- How often, in a union. -/
theorem UnI.cnt {S U : List Per} (h : UnI S U) (t : Int) : ((cntI (U.map (fun u => ⟨u.lo, u.hi⟩)) t : Nat) : Int) = if ∃ p ∈ S, p.lo ≤ t ∧ t < p.hi then 1 else 0 := by
  have key : ∀ {U : List Per}, U.Pairwise (fun a b => a.hi < b.lo) → (∀ u ∈ U, u.lo < u.hi) → cntI (U.map (fun u => (⟨u.lo, u.hi⟩ : Iv))) t ≤ 1 := by
    intro U
    induction U with
    | nil => intro _ _; simp [cntI]
    | cons u U ih =>
      intro hp hk
      have h1 := List.pairwise_cons.1 hp
      have h2 := ih h1.2 (fun v hv => hk v (List.mem_cons_of_mem _ hv))
      unfold cntI at h2 ⊢
      rw [List.map_cons, List.countP_cons]
      by_cases c : (⟨u.lo, u.hi⟩ : Iv).at t = true
      · have : (U.map (fun u => (⟨u.lo, u.hi⟩ : Iv))).countP (fun a => a.at t) = 0 := by
          rw [List.countP_eq_zero]
          intro a ha
          obtain ⟨v, hv, rfl⟩ := List.mem_map.1 ha
          have h3 := h1.1 v hv
          simp only [Iv.at, decide_eq_true_eq] at c ⊢
          omega
        rw [this, if_pos c]; omega
      · rw [if_neg c]; omega
  have h1 := key h.apart h.ok
  have h2 : 0 < cntI (U.map (fun u => (⟨u.lo, u.hi⟩ : Iv))) t ↔ ∃ u ∈ U, u.lo ≤ t ∧ t < u.hi := by
    rw [cntI_pos]
    constructor
    · rintro ⟨a, ha, h3⟩
      obtain ⟨u, hu, rfl⟩ := List.mem_map.1 ha
      exact ⟨u, hu, h3⟩
    · rintro ⟨u, hu, h3⟩
      exact ⟨_, List.mem_map.2 ⟨u, hu, rfl⟩, h3⟩
  by_cases c : ∃ p ∈ S, p.lo ≤ t ∧ t < p.hi
  · rw [if_pos c]
    have := h2.2 ((h.mem t).1 c)
    omega
  · rw [if_neg c]
    have : ¬ 0 < cntI (U.map (fun u => (⟨u.lo, u.hi⟩ : Iv))) t := fun h3 => c ((h.mem t).2 (h2.1 h3))
    omega
theorem UnI.lam {S U : List Per} (h : UnI S U) : Lam (U.map (fun u => (⟨u.lo, u.hi⟩ : Iv))) := by
  refine ⟨fun a ha => ?_, ?_⟩
  · obtain ⟨u, hu, rfl⟩ := List.mem_map.1 ha
    exact h.ok u hu
  · rw [List.pairwise_map]
    exact h.apart.imp (fun h => .inl h)
end Go.Proofs.YtlapifncplbcnaaGreat
