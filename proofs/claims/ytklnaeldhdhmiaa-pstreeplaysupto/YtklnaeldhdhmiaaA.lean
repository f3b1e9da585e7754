/- A tree of points, plainly. -/
import Derived.Test.YtklnaeldhdhmiaaB
import Derived.Lib.Walk
namespace Go.Proofs.Ytklnaeldhdhmiaa
open Go.RowKit
set_option linter.unusedVariables false
set_option linter.unusedSimpArgs false

structure Pt where
  x : Int
  y : Int
  id : Int
def aheadP (p q : Pt) : Prop := p.x < q.x ∨ (p.x = q.x ∧ p.id < q.id)
def aboveP (p q : Pt) : Prop := q.y < p.y ∨ (q.y = p.y ∧ aheadP p q)
instance (p q : Pt) : Decidable (aheadP p q) := by unfold aheadP; infer_instance
instance (p q : Pt) : Decidable (aboveP p q) := by unfold aboveP; infer_instance
/-- A tree: its top, its fork, what lies left and right. -/
inductive PT where
  | nil
  | node (p f : Pt) (l r : PT)
def PT.pts : PT → List Pt
  | .nil => []
  | .node p _ l r => p :: (l.pts ++ r.pts)
def PT.size : PT → Nat
  | .nil => 0
  | .node _ _ l r => l.size + r.size + 1
theorem PT.length_pts : ∀ t : PT, t.pts.length = t.size
  | .nil => rfl
  | .node p f l r => by simp only [PT.pts, PT.size, List.length_cons, List.length_append, l.length_pts, r.length_pts]
def PT.Ok : PT → Prop
  | .nil => True
  | .node p f l r => (∀ q ∈ l.pts ++ r.pts, ¬ aboveP q p) ∧ (∀ q ∈ l.pts, aheadP q f) ∧ (∀ q ∈ r.pts, ¬ aheadP q f) ∧ l.Ok ∧ r.Ok
/-- What is asked for. -/
def withinP (lo hi le : Int) (p : Pt) : Bool := decide (lo ≤ p.x) && decide (p.x ≤ hi) && decide (le ≤ p.y)
theorem aheadP_trans {p q r : Pt} (h1 : aheadP p q) (h2 : aheadP q r) : aheadP p r := by unfold aheadP at *; omega
theorem aboveP_irrefl (p : Pt) : ¬ aboveP p p := by unfold aboveP aheadP; omega
theorem aboveP_ntrans {p q r : Pt} (h1 : ¬ aboveP p q) (h2 : ¬ aboveP q r) : ¬ aboveP p r := by unfold aboveP aheadP at *; omega
theorem aboveP_asymm {p q : Pt} (h : aboveP p q) : ¬ aboveP q p := by unfold aboveP aheadP at *; omega
theorem aheadP_ntrans {p q r : Pt} (h1 : ¬ aheadP p q) (h2 : ¬ aheadP q r) : ¬ aheadP p r := by unfold aheadP at *; omega
theorem filter_none {l : List Pt} {f : Pt → Bool} (h : ∀ q ∈ l, f q = false) : l.filter f = [] := by
  rw [List.filter_eq_nil_iff]
  intro q hq
  rw [h q hq]
  exact Bool.false_ne_true
/-- What find may leave out. -/
theorem find_low {p f : Pt} {l r : PT} (h : (PT.node p f l r).Ok) (lo hi le : Int) (hy : p.y < le) : (PT.node p f l r).pts.filter (withinP lo hi le) = [] := by
  refine filter_none fun q hq => ?_
  have hq' : q.y ≤ p.y := by
    rcases List.mem_cons.1 hq with h1 | h1
    · subst h1; exact Int.le_refl _
    · have := h.1 q h1
      unfold aboveP at this
      omega
  unfold withinP
  have : decide (le ≤ q.y) = false := by simp; omega
  rw [this, Bool.and_false]
theorem find_left {p f : Pt} {l r : PT} (h : (PT.node p f l r).Ok) (lo hi le : Int) (hf : ¬ lo ≤ f.x) : l.pts.filter (withinP lo hi le) = [] := by
  refine filter_none fun q hq => ?_
  have h1 := h.2.1 q hq
  unfold aheadP at h1
  unfold withinP
  have : decide (lo ≤ q.x) = false := by simp; omega
  rw [this, Bool.false_and, Bool.false_and]
theorem find_right {p f : Pt} {l r : PT} (h : (PT.node p f l r).Ok) (lo hi le : Int) (hf : ¬ f.x ≤ hi) : r.pts.filter (withinP lo hi le) = [] := by
  refine filter_none fun q hq => ?_
  have h1 := h.2.2.1 q hq
  unfold aheadP at h1
  unfold withinP
  have : decide (q.x ≤ hi) = false := by simp; omega
  rw [this, Bool.and_false, Bool.false_and]
/-- One more to the left, or to the right; the higher of it and the top is the top. -/
theorem ok_add {p t f : Pt} {l r l' : PT} (left : Bool) (h : (PT.node t f l r).Ok) (hl' : l'.Ok) (q s : Pt) (hqs : (aboveP p t ∧ q = p ∧ s = t) ∨ (¬ aboveP p t ∧ q = t ∧ s = p))
    (hside : left = decide (aheadP s f)) (hp : l'.pts.Perm (s :: (if left then l.pts else r.pts))) :
    (if left then PT.node q f l' r else PT.node q f l l').Ok ∧ (if left then PT.node q f l' r else PT.node q f l l').pts.Perm (p :: (PT.node t f l r).pts) := by
  obtain ⟨h1, h2, h3, h4, h5⟩ := h
  have hab : ∀ z, z = s ∨ z ∈ l.pts ++ r.pts → ¬ aboveP z q := by
    intro z hz
    rcases hqs with ⟨ha, rfl, rfl⟩ | ⟨ha, rfl, rfl⟩
    · rcases hz with hz | hz
      · subst hz; exact aboveP_asymm ha
      · exact aboveP_ntrans (h1 z hz) (aboveP_asymm ha)
    · rcases hz with hz | hz
      · subst hz; exact ha
      · exact h1 z hz
  have hswap : (q :: s :: (l.pts ++ r.pts)).Perm (p :: t :: (l.pts ++ r.pts)) := by
    rcases hqs with ⟨ha, rfl, rfl⟩ | ⟨ha, rfl, rfl⟩
    · exact List.Perm.refl _
    · exact List.Perm.swap _ _ _
  cases left with
  | true =>
    simp only [if_true] at hp ⊢
    have hs : aheadP s f := of_decide_eq_true hside.symm
    refine ⟨⟨fun z hz => ?_, fun z hz => ?_, h3, hl', h5⟩, ?_⟩
    · rcases List.mem_append.1 hz with hz | hz
      · rcases List.mem_cons.1 (hp.mem_iff.1 hz) with h | h
        · exact hab z (.inl h)
        · exact hab z (.inr (List.mem_append.2 (.inl h)))
      · exact hab z (.inr (List.mem_append.2 (.inr hz)))
    · rcases List.mem_cons.1 (hp.mem_iff.1 hz) with h | h
      · subst h; exact hs
      · exact h2 z h
    · simp only [PT.pts]
      refine List.Perm.trans ((hp.append_right r.pts).cons q) ?_
      simpa using hswap
  | false =>
    simp only [Bool.false_eq_true, if_false] at hp ⊢
    have hs : ¬ aheadP s f := of_decide_eq_false hside.symm
    refine ⟨⟨fun z hz => ?_, h2, fun z hz => ?_, h4, hl'⟩, ?_⟩
    · rcases List.mem_append.1 hz with hz | hz
      · exact hab z (.inr (List.mem_append.2 (.inl hz)))
      · rcases List.mem_cons.1 (hp.mem_iff.1 hz) with h | h
        · exact hab z (.inl h)
        · exact hab z (.inr (List.mem_append.2 (.inr h)))
    · rcases List.mem_cons.1 (hp.mem_iff.1 hz) with h | h
      · subst h; exact hs
      · exact h3 z h
    · simp only [PT.pts]
      refine List.Perm.trans ((hp.append_left l.pts).cons q) ?_
      refine List.Perm.trans (List.Perm.cons q (List.perm_middle)) ?_
      exact hswap
end Go.Proofs.Ytklnaeldhdhmiaa
