/- Where, plainly: as many stretches as half the edges. -/
import Derived.Test.YtaikhmedehbfbaaRe
namespace Go.Proofs.Ytaikhmedehbfbaa
open Go.RowKit
set_option linter.unusedVariables false

/-- What a walk along the edges has made when i of them are behind it. -/
def alongN (cond : Int → Bool) (es : List Int) : Nat → List Per
  | 0 => []
  | i + 1 => match es[i]?, es[i + 1]? with
    | some a, some b => if cond a = true then push (alongN cond es i) a b else alongN cond es i
    | _, _ => alongN cond es i
theorem alongN_succ (cond : Int → Bool) (es : List Int) (i : Nat) (a b : Int) (ha : es[i]? = some a) (hb : es[i + 1]? = some b) : alongN cond es (i + 1) = if cond a = true then push (alongN cond es i) a b else alongN cond es i := by
  simp [alongN, ha, hb]
theorem along_all (cond : Int → Bool) (es : List Int) : ∀ (n i : Nat), i + n + 1 = es.length → along cond (es.drop i) (alongN cond es i) = alongN cond es (i + n)
  | 0, i, h => by
    rw [List.drop_eq_getElem_cons (by omega), List.drop_eq_nil_of_le (by omega), along]
    rfl
  | n + 1, i, h => by
    have h1 : es[i]? = some (es[i]'(by omega)) := List.getElem?_eq_getElem (by omega)
    have h2 : es[i + 1]? = some (es[i + 1]'(by omega)) := List.getElem?_eq_getElem (by omega)
    have ih := along_all cond es n (i + 1) (by omega)
    rw [alongN_succ cond es i _ _ h1 h2, List.drop_eq_getElem_cons (by omega)] at ih
    rw [List.drop_eq_getElem_cons (by omega), List.drop_eq_getElem_cons (i := i + 1) (by omega), along, ih]
    congr 1
    omega
theorem along_end (cond : Int → Bool) (es : List Int) (h : 0 < es.length) : along cond es [] = alongN cond es (es.length - 1) := by
  have h1 := along_all cond es (es.length - 1) 0 (by omega)
  rw [List.drop_zero, Nat.zero_add] at h1
  exact h1
theorem push_len (out : List Per) (a b : Int) : (push out a b).length = if (∃ p, out.getLast? = some p ∧ p.hi = a) then out.length else out.length + 1 := by
  unfold push
  cases hg : out.getLast? with
  | none =>
    have ho : out = [] := by simpa using hg
    subst ho
    simp
  | some p =>
    have hne : out ≠ [] := fun h => by subst h; simp at hg
    have hl : 0 < out.length := List.length_pos_iff.2 hne
    by_cases he : p.hi = a
    · simp only [he, if_pos]
      rw [if_pos ⟨p, rfl, he⟩]
      simp
      omega
    · rw [if_neg (by rintro ⟨q, hq, h⟩; injection hq with hq; subst hq; exact he h)]
      simp [he]
theorem push_last (out : List Per) (a b : Int) : ∃ p, (push out a b).getLast? = some p ∧ p.hi = b := by
  unfold push
  cases hg : out.getLast? with
  | none => exact ⟨_, rfl, rfl⟩
  | some p =>
    simp only
    split
    · exact ⟨⟨p.lo, b⟩, by simp, rfl⟩
    · exact ⟨⟨a, b⟩, by simp, rfl⟩
theorem along_half (cond : Int → Bool) (es : List Int) (hr : Rising es) : ∀ i, i < es.length → 2 * (alongN cond es i).length ≤ i ∨ (2 * (alongN cond es i).length ≤ i + 1 ∧ ∃ p x, (alongN cond es i).getLast? = some p ∧ es[i]? = some x ∧ p.hi = x)
  | 0, _ => by left; simp [alongN]
  | i + 1, h => by
    have h1 : es[i]? = some (es[i]'(by omega)) := List.getElem?_eq_getElem (by omega)
    have h2 : es[i + 1]? = some (es[i + 1]'h) := List.getElem?_eq_getElem h
    have ih := along_half cond es hr i (by omega)
    rw [alongN_succ cond es i _ _ h1 h2]
    by_cases hc : cond (es[i]'(by omega)) = true
    · rw [if_pos hc]
      right
      obtain ⟨p, hp, hph⟩ := push_last (alongN cond es i) (es[i]'(by omega)) (es[i + 1]'h)
      refine ⟨?_, p, _, hp, h2, hph⟩
      rw [push_len]
      split
      · rcases ih with ih | ih <;> omega
      · rename_i hno
        rcases ih with ih | ⟨ih, q, x, hq, hx, he⟩
        · omega
        · exact absurd ⟨q, hq, by rw [he]; rw [hx] at h1; injection h1⟩ hno
    · rw [if_neg hc]
      left
      rcases ih with ih | ih <;> omega
theorem along_len (cond : Int → Bool) (es : List Int) (hr : Rising es) (i : Nat) (h : i < es.length) : 2 * (alongN cond es i).length ≤ i + 1 := by
  rcases along_half cond es hr i h with h | h <;> omega
end Go.Proofs.Ytaikhmedehbfbaa
