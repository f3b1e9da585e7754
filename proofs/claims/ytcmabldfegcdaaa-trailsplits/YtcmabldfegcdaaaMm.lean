/- Splits, plainly. -/
import Derived.Test.YtcmabldfegcdaaaMl
namespace Go.Proofs.Ytcmabldfegcdaaa
open Go.RowKit
set_option maxRecDepth 100000
set_option linter.unusedVariables false
set_option linter.unusedSimpArgs false

/-- Told as committed once, where it was committed. -/
def TellS (s : Sn) : Prop := ∀ t, cntC s.C t = (if (s.f t).getD 0 ≤ 0 then 0 else 1) ∧ 0 ≤ (s.f t).getD 0
theorem tell_none : TellS Sn.none := fun t => ⟨rfl, Int.le_refl _⟩
theorem cntC_snoc (C : List Stp) (x : Stp) (t : Int) : cntC (C ++ [x]) t = cntC C t + if x.txn = t then 1 else 0 := by
  unfold cntC
  rw [List.countP_append]
  simp
theorem none_or (o : Option Int) : (o = none ∨ o = some 0) ↔ o.getD 0 = 0 := by cases o <;> simp
theorem tell_commit {s : Sn} (h : TellS s) (e : Ent) (m : Int) (hk : e.kind = 3) : TellS (stepS s e m) := by
  rw [stepS_commit _ _ _ hk]
  intro t
  obtain ⟨h1, h2⟩ := h t
  obtain ⟨g1, g2⟩ := h e.txn
  by_cases ht : t = e.txn
  · subst ht
    simp only [if_true, Option.getD_some]
    refine ⟨?_, by omega⟩
    by_cases h0 : s.f e.txn = none ∨ s.f e.txn = some 0
    · have hc := (none_or _).1 h0
      rw [if_pos h0, cntC_snoc, g1, hc]
      simp
    · have hc : (s.f e.txn).getD 0 ≠ 0 := fun h => h0 ((none_or _).2 h)
      rw [if_neg h0, g1, if_neg (by omega), if_neg (by omega)]
  · simp only [if_neg ht]
    refine ⟨?_, h2⟩
    by_cases h0 : s.f e.txn = none ∨ s.f e.txn = some 0
    · rw [if_pos h0, cntC_snoc, h1, if_neg (fun h : e.txn = t => ht h.symm), Nat.add_zero]
    · rw [if_neg h0, h1]
theorem tell_touch {s : Sn} (h : TellS s) (e : Ent) (m : Int) (hk : ¬ e.kind = 3) : TellS (stepS s e m) := by
  rw [stepS_touch _ _ _ hk]
  intro t
  obtain ⟨h1, h2⟩ := h t
  by_cases ht : t = e.txn
  · subst ht
    simp only [if_true, Option.getD_some]
    exact ⟨h1, h2⟩
  · simp only [if_neg ht]
    exact ⟨h1, h2⟩
theorem tell_run (M : List Int) (L : List Er) : ∀ k, TellS (runS M L k)
  | 0 => tell_none
  | k + 1 => by
    rw [show runS M L (k + 1) = (match L[k]? with | some x => stepS (runS M L k) x.1 (M.getD k 0) | .none => runS M L k) from rfl]
    split
    · by_cases hk : (by assumption : Er).1.kind = 3
      · exact tell_commit (tell_run M L k) _ _ hk
      · exact tell_touch (tell_run M L k) _ _ hk
    · exact tell_run M L k
theorem step_some (s : Sn) (e : Ent) (m : Int) : ((stepS s e m).f e.txn).isSome = true := by
  unfold stepS
  split <;> simp
theorem run_some (M : List Int) (L : List Er) {i : Nat} {x : Er} (hx : L[i]? = some x) {k : Nat} (hk : i < k) : ((runS M L k).f x.1.txn).isSome = true := by
  have h1 : ((runS M L (i + 1)).f x.1.txn).isSome = true := by
    rw [show runS M L (i + 1) = (match L[i]? with | some x => stepS (runS M L i) x.1 (M.getD i 0) | .none => runS M L i) from rfl, hx]
    exact step_some _ _ _
  have h2 := (moreS_run M L (i + 1) (k - (i + 1))).f _ h1
  rwa [show i + 1 + (k - (i + 1)) = k by omega] at h2
theorem cntZ_eq {Z : List Int} (hp : Z.Pairwise (· < ·)) (t : Int) : cntZ Z t = if t ∈ Z then 1 else 0 := by
  induction Z with
  | nil => rfl
  | cons a r ih =>
    obtain ⟨h1, h2⟩ := List.pairwise_cons.1 hp
    unfold cntZ at *
    rw [List.countP_cons, ih h2]
    by_cases ha : a = t
    · subst ha
      have : a ∉ r := fun h => by have := h1 a h; omega
      simp [this]
    · have h3 : t ∈ a :: r ↔ t ∈ r := by simp [List.mem_cons, Ne.symm ha]
      simp only [h3, ha, decide_false]
      simp
theorem lost_eq {s : Sn} {Z : List Int} (hp : Z.Pairwise (· < ·)) (hz : ∀ x, x ∈ Z ↔ In64 x ∧ s.f x = some 0) {t : Int} (ht : In64 t) : cntZ Z t = if s.f t = some 0 then 1 else 0 := by
  rw [cntZ_eq hp t]
  by_cases h : s.f t = some 0
  · rw [if_pos h, if_pos ((hz t).2 ⟨ht, h⟩)]
  · rw [if_neg h, if_neg (fun hm => h ((hz t).1 hm).2)]
/-- Each that has an entry is told once. -/
theorem told_once {s : Sn} (h : TellS s) {Z : List Int} (hp : Z.Pairwise (· < ·)) (hz : ∀ x, x ∈ Z ↔ In64 x ∧ s.f x = some 0) {t : Int} (ht : In64 t) (hs : (s.f t).isSome = true) : cntC s.C t + cntZ Z t = 1 := by
  rw [lost_eq hp hz ht, (h t).1]
  have h2 := (h t).2
  obtain ⟨c, hc⟩ := Option.isSome_iff_exists.1 hs
  rw [hc] at h2 ⊢
  simp only [Option.getD_some, Option.some.injEq] at *
  by_cases h0 : c = 0
  · subst h0; simp
  · rw [if_neg (by omega), if_neg h0]
/-- One commit more. -/
theorem told_more {s : Sn} {e : Ent} {m : Int} (hk : e.kind = 3) {Z Z' : List Int} (hp : Z.Pairwise (· < ·)) (hz : ∀ x, x ∈ Z ↔ In64 x ∧ s.f x = some 0) (hp' : Z'.Pairwise (· < ·)) (hz' : ∀ x, x ∈ Z' ↔ In64 x ∧ (stepS s e m).f x = some 0) {t : Int} (ht : In64 t) (hne : t ≠ e.txn) : cntC (stepS s e m).C t = cntC s.C t ∧ cntZ Z' t = cntZ Z t := by
  rw [lost_eq hp hz ht, lost_eq hp' hz' ht, stepS_commit _ _ _ hk]
  simp only [if_neg hne, and_true]
  split
  · rw [cntC_snoc, if_neg (fun h : e.txn = t => hne h.symm), Nat.add_zero]
  · rfl
theorem told_this {s : Sn} (h : TellS s) {e : Ent} {m : Int} (hk : e.kind = 3) {Z' : List Int} (hp' : Z'.Pairwise (· < ·)) (hz' : ∀ x, x ∈ Z' ↔ In64 x ∧ (stepS s e m).f x = some 0) (ht : In64 e.txn) : cntC (stepS s e m).C e.txn = 1 ∧ cntZ Z' e.txn = 0 := by
  have h1 := tell_commit h e m hk e.txn
  have h0 := (h e.txn).2
  rw [lost_eq hp' hz' ht]
  rw [stepS_commit _ _ _ hk] at *
  simp only [if_true, Option.getD_some, Option.some.injEq] at *
  exact ⟨by rw [h1.1, if_neg (by omega)], by rw [if_neg (by omega)]⟩
end Go.Proofs.Ytcmabldfegcdaaa
