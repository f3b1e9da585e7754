/- Joins: how often rows are there, plainly. -/
import Derived.Test.YtlapifncplbcnaaGreatMp
namespace Go.Proofs.YtlapifncplbcnaaGreat
set_option linter.unusedVariables false
set_option linter.unusedSimpArgs false

def atS (s : St) (t : Int) : Int := if s.lo ≤ t ∧ t < s.hi then s.n else 0
def hitR (a r : List Val) : Int := if a = r then 1 else 0
theorem sumR_tot (S : List St) (r : List Val) (t : Int) : sumR S r t = tot (fun s => hitR s.row r * atS s t) S := by
  induction S with
  | nil => rfl
  | cons x S ih =>
    have e : sumR (x :: S) r t = sumR [x] r t + sumR S r t := sumR_append [x] S r t
    rw [e, ih]
    simp only [tot]
    congr 1
    unfold hitR
    by_cases h : x.row = r
    · rw [if_pos h, sumR_all (by simpa using h)]
      simp [sumS, tot, atS]
    · rw [if_neg h, sumR_none (by simpa using h)]
      simp
/-- Each once. -/
def dd : List (List Val) → List (List Val)
  | [] => []
  | x :: l => if x ∈ l then dd l else x :: dd l
theorem mem_dd {a : List Val} : ∀ {l : List (List Val)}, a ∈ dd l ↔ a ∈ l
  | [] => Iff.rfl
  | x :: l => by
    unfold dd
    split
    · rename_i h
      rw [mem_dd]
      constructor
      · exact fun h2 => List.mem_cons_of_mem _ h2
      · intro h2
        rcases List.mem_cons.1 h2 with h2 | h2
        · rw [h2]; exact h
        · exact h2
    · rw [List.mem_cons, List.mem_cons, mem_dd]
theorem nodup_dd : ∀ l : List (List Val), (dd l).Nodup
  | [] => List.nodup_nil
  | x :: l => by
    unfold dd
    split
    · exact nodup_dd l
    · rename_i h
      exact List.nodup_cons.2 ⟨fun h2 => h (mem_dd.1 h2), nodup_dd l⟩
theorem tot_mul {α : Type} (f : α → Int) (c : Int) (a : List α) : tot (fun x => c * f x) a = c * tot f a := by
  induction a with
  | nil => simp [tot]
  | cons x a ih => simp only [tot, ih, Int.mul_add]
theorem tot_mul' {α : Type} (f : α → Int) (c : Int) (a : List α) : tot (fun x => f x * c) a = tot f a * c := by
  induction a with
  | nil => simp [tot]
  | cons x a ih => simp only [tot, ih, Int.add_mul]
theorem tot_one (φ : List Val → Int) (a : List Val) : ∀ {R : List (List Val)}, R.Nodup → a ∈ R → tot (fun r => φ r * hitR a r) R = φ a
  | [], _, h => by cases h
  | x :: R, hn, h => by
    simp only [tot]
    have hn2 := List.nodup_cons.1 hn
    by_cases e : a = x
    · subst e
      rw [tot_zero (a := R) (fun r hr => by unfold hitR; rw [if_neg (fun e => hn2.1 (by rw [e]; exact hr))]; simp)]
      unfold hitR
      rw [if_pos rfl]; omega
    · rcases List.mem_cons.1 h with h | h
      · exact absurd h e
      · rw [tot_one φ a hn2.2 h]
        unfold hitR
        rw [if_neg e]; omega
theorem wt_tot (φ : List Val → Int) (t : Int) (R : List (List Val)) (hR : R.Nodup) : ∀ (A : List St), (∀ s ∈ A, s.row ∈ R) → tot (fun s => φ s.row * atS s t) A = tot (fun r => φ r * sumR A r t) R
  | [], _ => by
    rw [tot_zero (a := R) (fun r _ => by simp [sumR, sumS, tot])]
    rfl
  | x :: A, h => by
    simp only [tot]
    rw [wt_tot φ t R hR A (fun s hs => h s (List.mem_cons_of_mem _ hs)), ← tot_one (fun r => φ r * atS x t) x.row hR (h x (List.mem_cons_self ..)), ← tot_add]
    apply tot_congr
    intro r _
    have e : sumR (x :: A) r t = sumR [x] r t + sumR A r t := sumR_append [x] A r t
    rw [e, sumR_tot [x]]
    simp only [tot, Int.add_zero]
    rw [Int.mul_add]
    congr 1
    rw [Int.mul_assoc, Int.mul_comm (atS x t)]
/-- What is told of rows alike counts alike. -/
theorem wt_congr {A B : List St} {t : Int} (h : ∀ r, sumR A r t = sumR B r t) (φ : List Val → Int) : tot (fun s => φ s.row * atS s t) A = tot (fun s => φ s.row * atS s t) B := by
  have hR := nodup_dd ((A ++ B).map St.row)
  rw [wt_tot φ t _ hR A (fun s hs => mem_dd.2 (List.mem_map.2 ⟨s, List.mem_append_left _ hs, rfl⟩)), wt_tot φ t _ hR B (fun s hs => mem_dd.2 (List.mem_map.2 ⟨s, List.mem_append_right _ hs, rfl⟩))]
  exact tot_congr (fun r _ => by rw [h r])
/-- Pairs. -/
def jn (x y : St) (r : List Val) (t : Int) : Int := hitR (x.row ++ y.row) r * (atS x t * atS y t)
def J (A B : List St) (r : List Val) (t : Int) : Int := tot (fun x => tot (fun y => jn x y r t) B) A
theorem J_append_left (A A' B : List St) (r : List Val) (t : Int) : J (A ++ A') B r t = J A B r t + J A' B r t := tot_append _ _ _
theorem J_append_right (A B B' : List St) (r : List Val) (t : Int) : J A (B ++ B') r t = J A B r t + J A B' r t := by
  unfold J
  rw [← tot_add]
  exact tot_congr (fun x _ => tot_append _ _ _)
theorem J_left {A A' : List St} (B : List St) (r : List Val) (t : Int) (h : ∀ r, sumR A r t = sumR A' r t) : J A B r t = J A' B r t := by
  have e : ∀ A, J A B r t = tot (fun s => (fun a => tot (fun y => hitR (a ++ y.row) r * atS y t) B) s.row * atS s t) A := by
    intro A
    unfold J
    apply tot_congr
    intro x _
    rw [← tot_mul']
    apply tot_congr
    intro y _
    unfold jn
    rw [Int.mul_assoc, Int.mul_comm (atS x t)]
  rw [e, e]
  exact wt_congr h (fun a => tot (fun y => hitR (a ++ y.row) r * atS y t) B)
theorem J_right (A : List St) {B B' : List St} (r : List Val) (t : Int) (h : ∀ r, sumR B r t = sumR B' r t) : J A B r t = J A B' r t := by
  unfold J
  apply tot_congr
  intro x _
  have e : ∀ B, tot (fun y => jn x y r t) B = tot (fun s => (fun a => hitR (x.row ++ a) r * atS x t) s.row * atS s t) B := by
    intro B
    apply tot_congr
    intro y _
    unfold jn
    rw [Int.mul_assoc]
  rw [e, e]
  exact wt_congr h (fun a => hitR (x.row ++ a) r * atS x t)
theorem J_perm_left {A A' : List St} (B : List St) (r : List Val) (t : Int) (h : A.Perm A') : J A B r t = J A' B r t := tot_perm _ h
theorem J_perm_right (A : List St) {B B' : List St} (r : List Val) (t : Int) (h : B.Perm B') : J A B r t = J A B' r t := tot_congr (fun x _ => tot_perm _ h)
/-- A pair as a step. -/
def pairS (p : Option Addr) (c : Nat) (x y : St) : St := ⟨p, c, x.row ++ y.row, max x.lo y.lo, min x.hi y.hi, x.n * y.n⟩
theorem sumR_pair (p : Option Addr) (c : Nat) (x y : St) (r : List Val) (t : Int) : sumR [pairS p c x y] r t = jn x y r t := by
  rw [sumR_tot]
  simp only [tot, Int.add_zero]
  unfold jn pairS atS
  simp only
  congr 1
  by_cases h1 : x.lo ≤ t ∧ t < x.hi
  · by_cases h2 : y.lo ≤ t ∧ t < y.hi
    · rw [if_pos h1, if_pos h2, if_pos (by omega)]
    · rw [if_neg h2, if_neg (by omega)]; simp
  · rw [if_neg h1, if_neg (by omega)]; simp
theorem jn_apart {x y : St} (h : x.hi ≤ y.lo ∨ y.hi ≤ x.lo) (r : List Val) (t : Int) : jn x y r t = 0 := by
  unfold jn atS
  by_cases h1 : x.lo ≤ t ∧ t < x.hi
  · rw [if_neg (c := y.lo ≤ t ∧ t < y.hi) (by omega)]; simp
  · rw [if_neg h1]; simp
end Go.Proofs.YtlapifncplbcnaaGreat
