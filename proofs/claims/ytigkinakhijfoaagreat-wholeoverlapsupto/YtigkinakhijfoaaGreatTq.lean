/- Items of a list, plainly; how many numbers of a rising list are below one. -/
import Derived.Test.YtigkinakhijfoaaGreatJz
namespace Go.Proofs.YtigkinakhijfoaaGreat
open Go.RowKit
set_option maxRecDepth 100000
set_option linter.unusedVariables false
set_option linter.unusedSimpArgs false

/-- The periods of a list that are right, numbered from s on. -/
def its (s : Int) (L : List Per) (j : Nat) : List Itm := (List.range j).filterMap fun i : Nat => (L[i]?).bind fun p => if rightB p = true then some ⟨s + (i : Int), p.lo, p.hi⟩ else none
theorem its_succ (s : Int) {L : List Per} {j : Nat} {p : Per} (h : L[j]? = some p) : its s L (j + 1) = its s L j ++ (if rightB p = true then [⟨s + (j : Int), p.lo, p.hi⟩] else []) := by
  unfold its
  rw [List.range_succ, List.filterMap_append]
  congr 1
  by_cases hr : rightB p = true
  · simp [h, hr]
  · simp [h, hr]
theorem its_mem {s : Int} {L : List Per} {j : Nat} {q : Itm} (h : q ∈ its s L j) : ∃ i, i < j ∧ q.id = s + (i : Int) ∧ ∃ p, L[i]? = some p ∧ rightB p = true ∧ q = ⟨s + (i : Int), p.lo, p.hi⟩ := by
  unfold its at h
  obtain ⟨i, hi, h⟩ := List.mem_filterMap.1 h
  have hi := List.mem_range.1 hi
  cases hp : L[i]? with
  | none => rw [hp] at h; cases h
  | some p =>
    rw [hp] at h
    simp only [Option.bind_some] at h
    split at h
    · rename_i hr
      cases h
      exact ⟨i, hi, rfl, p, hp, hr, rfl⟩
    · cases h
theorem its_in {s : Int} {L : List Per} {j i : Nat} {p : Per} (hi : i < j) (hp : L[i]? = some p) (hr : rightB p = true) : (⟨s + (i : Int), p.lo, p.hi⟩ : Itm) ∈ its s L j := by
  unfold its
  refine List.mem_filterMap.2 ⟨i, List.mem_range.2 hi, ?_⟩
  rw [hp]
  simp [hr]
theorem its_len (s : Int) (L : List Per) (j : Nat) : (its s L j).length ≤ j := by
  unfold its
  have := List.length_filterMap_le (fun i : Nat => (L[i]?).bind fun p => if rightB p = true then some (⟨s + (i : Int), p.lo, p.hi⟩ : Itm) else none) (List.range j)
  rwa [List.length_range] at this
theorem rising_nodup {L : List Int} (h : L.Pairwise (· < ·)) : L.Nodup := h.imp (fun h => by omega)
/-- Lists without repeats that have the same members are of one length. -/
theorem same_len {A B : List Int} (ha : A.Nodup) (hb : B.Nodup) (h : ∀ x, x ∈ A ↔ x ∈ B) : A.length = B.length :=
  ((List.perm_ext_iff_of_nodup ha hb).2 h).length_eq
theorem overB_iff {p q : Per} (hp : rightB p = true) (hq : rightB q = true) : overB p q = true ↔ p.lo < q.hi ∧ q.lo < p.hi := by
  obtain ⟨a1, a2, a3⟩ := (rightB_iff p).1 hp
  obtain ⟨b1, b2, b3⟩ := (rightB_iff q).1 hq
  unfold overB
  rw [hp, hq, Bool.true_and, Bool.true_and, rightB_iff]
  unfold Right bothP
  simp only []
  omega
theorem without_none {L : List Itm} {id : Int} (h : ∀ q ∈ L, q.id ≠ id) : without L id = L := List.filter_eq_self.2 (fun q hq => by simpa using h q hq)
/-- Is a number there? -/
def lftB (L : List Itm) (k : Nat) : Bool := L.any (fun q => decide (q.id = (k : Int)))
theorem lft_iff {L : List Itm} {k : Nat} : lftB L k = true ↔ ∃ q ∈ L, q.id = (k : Int) := by
  unfold lftB
  rw [List.any_eq_true]
  constructor
  · rintro ⟨q, h, e⟩; exact ⟨q, h, of_decide_eq_true e⟩
  · rintro ⟨q, h, e⟩; exact ⟨q, h, decide_eq_true e⟩
theorem lft_without (L : List Itm) (m k : Nat) : lftB (without L (m : Int)) k = if k = m then false else lftB L k := by
  rw [Bool.eq_iff_iff, lft_iff]
  by_cases h : k = m
  · subst h
    rw [if_pos rfl]
    constructor
    · rintro ⟨q, hq, e⟩
      have := (List.mem_filter.1 hq).2
      simp [e] at this
    · intro h; cases h
  · rw [if_neg h, lft_iff]
    constructor
    · rintro ⟨q, hq, e⟩; exact ⟨q, (List.mem_filter.1 hq).1, e⟩
    · rintro ⟨q, hq, e⟩; exact ⟨q, List.mem_filter.2 ⟨hq, decide_eq_true (by omega)⟩, e⟩
theorem lft_its {L : List Per} {j : Nat} {q : Per} (h : L[j]? = some q) (k : Nat) : lftB (its 0 L (j + 1)) k = if k = j then rightB q else lftB (its 0 L j) k := by
  rw [Bool.eq_iff_iff, lft_iff]
  by_cases hk : k = j
  · subst hk
    rw [if_pos rfl]
    constructor
    · rintro ⟨z, hz, e⟩
      obtain ⟨i, hi, e2, p, hp, hr, _⟩ := its_mem hz
      have : i = k := by omega
      subst this
      rw [h] at hp
      cases hp
      exact hr
    · intro hr
      exact ⟨_, its_in (s := 0) (Nat.lt_succ_self k) h hr, by show (0 : Int) + (k : Int) = (k : Int); omega⟩
  · rw [if_neg hk, lft_iff]
    constructor
    · rintro ⟨z, hz, e⟩
      obtain ⟨i, hi, e2, p, hp, hr, rfl⟩ := its_mem hz
      exact ⟨_, its_in (s := 0) (by omega) hp hr, e⟩
    · rintro ⟨z, hz, e⟩
      obtain ⟨i, hi, e2, p, hp, hr, rfl⟩ := its_mem hz
      exact ⟨_, its_in (s := 0) (by omega) hp hr, e⟩
/-- How many are below one. -/
def cntA (A : List Int) (k : Nat) : Nat := (A.filter (fun x => decide (x < (k : Int)))).length
theorem cnt_out {A : List Int} {k : Nat} (h : (k : Int) ∉ A) : cntA A (k + 1) = cntA A k := by
  unfold cntA
  congr 1
  refine List.filter_congr (fun x hx => ?_)
  have : x ≠ (k : Int) := fun e => h (e ▸ hx)
  rw [Bool.eq_iff_iff]
  simp only [decide_eq_true_eq]
  omega
theorem cnt_in {A : List Int} {k : Nat} (hA : A.Pairwise (· < ·)) (h : (k : Int) ∈ A) : A[cntA A k]? = some (k : Int) ∧ cntA A (k + 1) = cntA A k + 1 := by
  obtain ⟨B, C, rfl⟩ := List.append_of_mem h
  obtain ⟨h1, h2, h3⟩ := List.pairwise_append.1 hA
  have hB : ∀ x ∈ B, x < (k : Int) := fun x hx => h3 x hx _ (List.mem_cons_self ..)
  have hC : ∀ x ∈ C, (k : Int) < x := (List.pairwise_cons.1 h2).1
  have e1 : (B ++ (k : Int) :: C).filter (fun x => decide (x < (k : Int))) = B := by
    rw [List.filter_append, List.filter_eq_self.2 (fun x hx => decide_eq_true (hB x hx)), List.filter_cons_of_neg (by simp), List.filter_eq_nil_iff.2 (fun x hx => by have := hC x hx; simp; omega), List.append_nil]
  have e2 : (B ++ (k : Int) :: C).filter (fun x => decide (x < ((k + 1 : Nat) : Int))) = B ++ [(k : Int)] := by
    rw [List.filter_append, List.filter_eq_self.2 (fun x hx => decide_eq_true (by have := hB x hx; omega)), List.filter_cons_of_pos (by simp; omega), List.filter_eq_nil_iff.2 (fun x hx => by have := hC x hx; simp; omega)]
  unfold cntA
  rw [e1, e2]
  refine ⟨?_, by simp⟩
  rw [List.getElem?_append_right (Nat.le_refl _), Nat.sub_self]
  rfl
theorem cnt_end {A : List Int} {n : Nat} (h : ∀ x ∈ A, x < (n : Int)) : cntA A n = A.length := by
  unfold cntA
  rw [List.filter_eq_self.2 (fun x hx => decide_eq_true (h x hx))]
theorem cnt_zero {A : List Int} (h : ∀ x ∈ A, 0 ≤ x) : cntA A 0 = 0 := by
  unfold cntA
  rw [List.filter_eq_nil_iff.2 (fun x hx => by have := h x hx; simp; omega)]
  rfl
theorem cnt_le (A : List Int) (k : Nat) : cntA A k ≤ A.length := List.length_filter_le ..
theorem nodup_le : ∀ {n : Nat} {K : List Int}, K.Nodup → (∀ x ∈ K, 0 ≤ x ∧ x < (n : Int)) → K.length ≤ n
  | 0, [], _, _ => Nat.le_refl _
  | 0, x :: K, _, h => by have := h x (List.mem_cons_self ..); omega
  | n + 1, K, hn, h => by
    have h1 := nodup_le (n := n) (K := K.filter (fun x => decide (x ≠ (n : Int)))) (hn.sublist List.filter_sublist) (fun x hx => by
      obtain ⟨h1, h2⟩ := List.mem_filter.1 hx
      have h2 := of_decide_eq_true h2
      have := h x h1
      omega)
    have h2 : K.length ≤ (K.filter (fun x => decide (x ≠ (n : Int)))).length + 1 := by
      clear h h1
      induction K with
      | nil => simp
      | cons a K ih =>
        obtain ⟨a1, a2⟩ := List.nodup_cons.1 hn
        by_cases e : a = (n : Int)
        · subst e
          rw [List.filter_cons_of_neg (by simp)]
          have : K.filter (fun x => decide (x ≠ (n : Int))) = K := List.filter_eq_self.2 (fun x hx => decide_eq_true (fun e => a1 (e ▸ hx)))
          rw [this, List.length_cons]
          exact Nat.le_refl _
        · rw [List.filter_cons_of_pos (by simpa using e), List.length_cons, List.length_cons]
          have := ih a2
          omega
    omega
end Go.Proofs.YtigkinakhijfoaaGreat
