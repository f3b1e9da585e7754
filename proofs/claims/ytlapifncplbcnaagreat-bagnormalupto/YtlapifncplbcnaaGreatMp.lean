/- How often rows are there, in lists of facts: plainly. -/
import Derived.Test.YtlapifncplbcnaaGreatMl
namespace Go.Proofs.YtlapifncplbcnaaGreat
set_option linter.unusedVariables false
set_option linter.unusedSimpArgs false

theorem tot_pos {α : Type} {f : α → Int} {a : List α} (h : 0 < tot f a) : ∃ x ∈ a, 0 < f x := by
  induction a with
  | nil => simp [tot] at h
  | cons x a ih =>
    simp only [tot] at h
    by_cases hx : 0 < f x
    · exact ⟨x, List.mem_cons_self .., hx⟩
    · obtain ⟨y, hy, h2⟩ := ih (by omega)
      exact ⟨y, List.mem_cons_of_mem _ hy, h2⟩
/-- Is a row told here? -/
def nF (f : Ft) (r : List Val) (t : Int) : Int := if okF f = true ∧ f.row = r ∧ f.lo ≤ t ∧ t < f.hi then 1 else 0
def cN (L : List Ft) (r : List Val) (t : Int) : Int := tot (fun f => nF f r t) L
theorem nF_nonneg (f : Ft) (r : List Val) (t : Int) : 0 ≤ nF f r t := by unfold nF; split <;> omega
theorem cN_nonneg (L : List Ft) (r : List Val) (t : Int) : 0 ≤ cN L r t := tot_nonneg (fun f => nF_nonneg f r t)
theorem cN_append (A B : List Ft) (r : List Val) (t : Int) : cN (A ++ B) r t = cN A r t + cN B r t := tot_append _ _ _
theorem sumR_steps (L : List Ft) (n : Int) (r : List Val) (t : Int) : sumR (stepsL L n) r t = n * cN L r t := by
  induction L with
  | nil => simp [stepsL, sumR, sumS, tot, cN]
  | cons x L ih =>
    have e : cN (x :: L) r t = nF x r t + cN L r t := rfl
    rw [e, Int.mul_add, ← ih]
    unfold nF
    by_cases hx : okF x = true
    · have e1 : stepsL (x :: L) n = [stepF n x] ++ stepsL L n := by simp [stepsL, List.filter_cons, hx]
      rw [e1, sumR_append]
      congr 1
      by_cases hr : x.row = r
      · have e2 : sumR [stepF n x] r t = if x.lo ≤ t ∧ t < x.hi then n else 0 := by
          rw [sumR_all (fun s hs => by rw [List.mem_singleton.1 hs]; exact hr)]
          by_cases h : x.lo ≤ t ∧ t < x.hi
          · rw [if_pos h]; simp [sumS, tot, stepF, h]
          · rw [if_neg h]; simp [sumS, tot, stepF, h]
        rw [e2]
        by_cases ht : x.lo ≤ t ∧ t < x.hi
        · rw [if_pos ht, if_pos ⟨hx, hr, ht.1, ht.2⟩]; omega
        · rw [if_neg ht, if_neg (fun h => ht ⟨h.2.2.1, h.2.2.2⟩)]; omega
      · have e2 : sumR [stepF n x] r t = 0 := sumR_none (by simpa [stepF] using hr) t
        rw [e2, if_neg (fun h => hr h.2.1)]; omega
    · have e1 : stepsL (x :: L) n = stepsL L n := by simp [stepsL, List.filter_cons, hx]
      rw [e1, if_neg (fun h => hx h.1)]; omega
theorem sumR_all_steps (D : List Ls) (r : List Val) (t : Int) : sumR (allS D) r t = tot (fun d => cN d.L r t) D := by
  induction D with
  | nil => simp [allS, sumR, sumS, tot]
  | cons x D ih =>
    have e : allS (x :: D) = stepsL x.L 1 ++ allS D := by simp [allS]
    rw [e, sumR_append, ih, sumR_steps, Int.one_mul]
    rfl
theorem nF_clip (p : Per) (x : Ft) (r : List Val) (t : Int) : tot (fun f => nF f r t) (clipF p x).toList = if rightB p = true ∧ p.lo ≤ t ∧ t < p.hi then nF x r t else 0 := by
  by_cases ho : overB ⟨x.lo, x.hi⟩ p = true
  · have hp : overP ⟨x.lo, x.hi⟩ p = bothP ⟨x.lo, x.hi⟩ p := by unfold overP; rw [if_pos ho]
    have e : clipF p x = some ⟨x.p, x.c, x.row, max x.lo p.lo, min x.hi p.hi⟩ := by unfold clipF; rw [if_pos ho, hp]; rfl
    have ho' := ho
    unfold overB at ho'
    simp only [Bool.and_eq_true] at ho'
    obtain ⟨⟨h1, h2⟩, h3⟩ := ho'
    rw [e]
    simp only [Option.toList, tot, Int.add_zero]
    have k1 : okF x = true := h1
    have k3 : okF ⟨x.p, x.c, x.row, max x.lo p.lo, min x.hi p.hi⟩ = true := h3
    unfold nF
    rw [k1, k3, h2]
    simp only [true_and]
    by_cases hr : x.row = r
    · simp only [hr, true_and]
      by_cases ha : p.lo ≤ t ∧ t < p.hi
      · rw [if_pos ha]
        by_cases hb : x.lo ≤ t ∧ t < x.hi
        · rw [if_pos (by omega), if_pos hb]
        · rw [if_neg (by omega), if_neg hb]
      · rw [if_neg ha, if_neg (by omega)]
    · simp [hr]
  · have e : clipF p x = none := by unfold clipF; rw [if_neg ho]
    rw [e]
    simp only [Option.toList, tot]
    by_cases hb : rightB p = true ∧ p.lo ≤ t ∧ t < p.hi
    · rw [if_pos hb]
      unfold nF
      by_cases ha : okF x = true ∧ x.row = r ∧ x.lo ≤ t ∧ t < x.hi
      · exfalso
        apply ho
        have h1 : rightB ⟨x.lo, x.hi⟩ = true := ha.1
        have h3 : rightB (bothP ⟨x.lo, x.hi⟩ p) = true := by
          rw [rightB_iff] at h1 ⊢
          have h2 := (rightB_iff p).1 hb.1
          unfold Right bothP at *
          simp only at *
          omega
        unfold overB
        rw [h1, hb.1, h3]
        rfl
      · rw [if_neg ha]
    · rw [if_neg hb]
theorem cN_clip (L : List Ft) (p : Per) (r : List Val) (t : Int) : cN (clipL L p) r t = if rightB p = true ∧ p.lo ≤ t ∧ t < p.hi then cN L r t else 0 := by
  induction L with
  | nil => simp [clipL, cN, tot]
  | cons x L ih =>
    have e : clipL (x :: L) p = (clipF p x).toList ++ clipL L p := by unfold clipL; rw [List.filterMap_cons]; cases clipF p x <;> rfl
    have e2 : cN (x :: L) r t = nF x r t + cN L r t := rfl
    rw [e, cN_append, ih, e2]
    have := nF_clip p x r t
    unfold cN
    rw [this]
    by_cases hb : rightB p = true ∧ p.lo ≤ t ∧ t < p.hi
    · rw [if_pos hb, if_pos hb, if_pos hb]
    · rw [if_neg hb, if_neg hb, if_neg hb]; rfl
theorem cntF_tot (F : List Fa) (r : List Val) (t : Int) : ((cntF F r t : Nat) : Int) = tot (fun f => if f.row = r ∧ f.lo ≤ t ∧ t < f.hi then 1 else 0) F := by
  induction F with
  | nil => rfl
  | cons x F ih =>
    simp only [tot]
    rw [← ih]
    have e : fam r (x :: F) = fam r [x] ++ fam r F := by rw [← fam_append]; rfl
    unfold cntF
    rw [e, cntI_append]
    have : ((cntI (fam r [x]) t : Nat) : Int) = if x.row = r ∧ x.lo ≤ t ∧ t < x.hi then 1 else 0 := by
      by_cases hr : x.row = r
      · rw [fam_all (by simpa using hr)]
        simp only [hr, true_and, List.map_cons, List.map_nil]
        unfold cntI Iv.at Fa.iv
        by_cases hb : x.lo ≤ t ∧ t < x.hi
        · simp [hb]
        · simp [hb]
      · rw [fam_none (by simpa using hr), if_neg (fun h => hr h.1)]; rfl
    omega
theorem sumR_pos {S : List St} {r : List Val} {t : Int} (h : 0 < sumR S r t) : ∃ s ∈ S, s.lo ≤ t ∧ t < s.hi := by
  obtain ⟨s, hs, h2⟩ := tot_pos h
  refine ⟨s, (List.mem_filter.1 hs).1, ?_⟩
  by_cases hb : s.lo ≤ t ∧ t < s.hi
  · exact hb
  · rw [if_neg hb] at h2; omega
/-- Steps of periods. -/
def Rts (S : List St) : Prop := ∀ s ∈ S, 0 ≤ s.lo ∧ s.lo < s.hi ∧ s.hi ≤ 1099511627776
theorem Rts.steps (L : List Ft) (n : Int) : Rts (stepsL L n) := by
  intro s hs
  obtain ⟨f, hf, rfl⟩ := List.mem_map.1 hs
  exact (rightB_iff _).1 (List.mem_filter.1 hf).2
theorem Rts.append {A B : List St} (h : Rts A) (k : Rts B) : Rts (A ++ B) := by
  intro s hs
  rcases List.mem_append.1 hs with hs | hs
  · exact h s hs
  · exact k s hs
theorem Rts.all (D : List Ls) : Rts (allS D) := by
  intro s hs
  obtain ⟨d, _, hd⟩ := List.mem_flatMap.1 hs
  exact Rts.steps _ _ s hd
theorem Fo.right {S : List St} {F : List Fa} (h : Fo S F) (hS : Rts S) : ∀ f ∈ F, rightB ⟨f.lo, f.hi⟩ = true := by
  intro f hf
  have hm : f.iv ∈ fam f.row F := List.mem_map.2 ⟨f, List.mem_filter.2 ⟨hf, by simp⟩, rfl⟩
  have hlt : f.lo < f.hi := (h.nf.lam f.row).1 _ hm
  have key : ∀ t, f.lo ≤ t → t < f.hi → ∃ s ∈ S, s.lo ≤ t ∧ t < s.hi := by
    intro t h1 h2
    have hp : 0 < cntF F f.row t := cntI_pos.2 ⟨_, hm, h1, h2⟩
    have := h.cnt f.row t
    exact sumR_pos (r := f.row) (by omega)
  obtain ⟨s1, h1, h2⟩ := key f.lo (by omega) hlt
  obtain ⟨s2, h3, h4⟩ := key (f.hi - 1) (by omega) (by omega)
  have k1 := hS s1 h1
  have k2 := hS s2 h3
  rw [rightB_iff]
  unfold Right
  simp only
  omega
theorem Fo.cN {S : List St} {F : List Ft} (h : Fo S (F.map Ft.fa)) (hS : Rts S) (r : List Val) (t : Int) : cN F r t = max (sumR S r t) 0 := by
  rw [← h.cnt r t, cntF_tot]
  have hr := h.right hS
  unfold YtlapifncplbcnaaGreat.cN
  clear h
  induction F with
  | nil => rfl
  | cons x F ih =>
    simp only [tot, List.map_cons]
    rw [ih (fun f hf => hr f (by simp at hf ⊢; exact .inr hf))]
    congr 1
    have hx : okF x = true := hr x.fa (by simp)
    unfold nF
    rw [hx]
    simp only [true_and]
    rfl
/-- Two that say the same are the same. -/
theorem Fo.same {S S' : List St} {F F' : List Ft} (h : Fo S (F.map Ft.fa)) (h' : Fo S' (F'.map Ft.fa)) (he : ∀ r t, max (sumR S r t) 0 = max (sumR S' r t) 0) : F.map Ft.fa = F'.map Ft.fa := by
  refine NF.unique h.nf h'.nf (fun r t => ?_)
  have h1 := h.cnt r t
  have h2 := h'.cnt r t
  have h3 := he r t
  omega
end Go.Proofs.YtlapifncplbcnaaGreat
