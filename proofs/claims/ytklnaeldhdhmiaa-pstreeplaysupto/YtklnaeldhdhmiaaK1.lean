/- Trees from which a point is taken, plainly. -/
import Derived.Test.YtklnaeldhdhmiaaK
namespace Go.Proofs.Ytklnaeldhdhmiaa
open Go.RowKit Go.Sort
set_option linter.unusedVariables false
set_option linter.unusedSimpArgs false

/-- One side has fewer points; the top is this one, or another that stands above all that are left. -/
theorem ok_less {t q f : Pt} {l r l' : PT} (left : Bool) (h : (PT.node t f l r).Ok) (hl' : l'.Ok) (hq : ∀ z ∈ l.pts ++ r.pts, ¬ aboveP z q) (hsub : ∀ z ∈ l'.pts, z ∈ (if left then l.pts else r.pts)) :
    (if left then PT.node q f l' r else PT.node q f l l').Ok := by
  obtain ⟨h1, h2, h3, h4, h5⟩ := h
  cases left with
  | true =>
    simp only [if_true] at hsub ⊢
    refine ⟨fun z hz => ?_, fun z hz => h2 z (hsub z hz), h3, hl', h5⟩
    rcases List.mem_append.1 hz with hz | hz
    · exact hq z (List.mem_append.2 (.inl (hsub z hz)))
    · exact hq z (List.mem_append.2 (.inr hz))
  | false =>
    simp only [Bool.false_eq_true, if_false] at hsub ⊢
    refine ⟨fun z hz => ?_, h2, fun z hz => h3 z (hsub z hz), h4, hl'⟩
    rcases List.mem_append.1 hz with hz | hz
    · exact hq z (List.mem_append.2 (.inl hz))
    · exact hq z (List.mem_append.2 (.inr (hsub z hz)))
/-- Of the two tops below the higher stands above all that lie below. -/
theorem top_two {t f a b fa fb : Pt} {la ra lb rb : PT} (h : (PT.node t f (.node a fa la ra) (.node b fb lb rb)).Ok) :
    (¬ aboveP b a → ∀ z ∈ (PT.node a fa la ra).pts ++ (PT.node b fb lb rb).pts, ¬ aboveP z a) ∧ (aboveP b a → ∀ z ∈ (PT.node a fa la ra).pts ++ (PT.node b fb lb rb).pts, ¬ aboveP z b) := by
  obtain ⟨h1, h2, h3, h4, h5⟩ := h
  have ha : ∀ z ∈ (PT.node a fa la ra).pts, ¬ aboveP z a := fun z hz => by
    rcases List.mem_cons.1 hz with h | h
    · subst h; exact aboveP_irrefl _
    · exact h4.1 z h
  have hb : ∀ z ∈ (PT.node b fb lb rb).pts, ¬ aboveP z b := fun z hz => by
    rcases List.mem_cons.1 hz with h | h
    · subst h; exact aboveP_irrefl _
    · exact h5.1 z h
  refine ⟨fun hab z hz => ?_, fun hab z hz => ?_⟩
  · rcases List.mem_append.1 hz with hz | hz
    · exact ha z hz
    · exact aboveP_ntrans (hb z hz) hab
  · rcases List.mem_append.1 hz with hz | hz
    · exact aboveP_ntrans (ha z hz) (aboveP_asymm hab)
    · exact hb z hz
theorem top_one {t f a fa : Pt} {la ra : PT} (h : (PT.node a fa la ra).Ok) : ∀ z ∈ (PT.node a fa la ra).pts, ¬ aboveP z a := fun z hz => by
  rcases List.mem_cons.1 hz with h' | h'
  · subst h'; exact aboveP_irrefl _
  · exact h.1 z h'
end Go.Proofs.Ytklnaeldhdhmiaa
