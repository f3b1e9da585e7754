/- The normal form: there is but one for what is said. -/
import Derived.Test.YtlapifncplbcnaaGreatPb
import Derived.Test.YtlapifncplbcnaaGreatFc
namespace Go.Proofs.YtlapifncplbcnaaGreat
set_option linter.unusedVariables false
set_option linter.unusedSimpArgs false

instance : DecidableEq Val := fun a b => decidable_of_iff (cmpV a b = 0) cmpV_zero
/-- A fact by its values. -/
structure Fa where
  row : List Val
  lo : Int
  hi : Int
deriving DecidableEq
def Ft.fa (x : Ft) : Fa := ⟨x.row, x.lo, x.hi⟩
def Fa.iv (x : Fa) : Iv := ⟨x.lo, x.hi⟩
/-- When a row holds. -/
def fam (r : List Val) (F : List Fa) : List Iv := (F.filter (fun f => decide (f.row = r))).map Fa.iv
def cntF (F : List Fa) (r : List Val) (t : Int) : Nat := cntI (fam r F) t
def ordA : Fa → Fa → Int := lex (fun a b => cmpL a.row b.row) (lex (fun a b => cmpI a.lo b.lo) (fun a b => cmpI a.hi b.hi))
theorem good_ordA : Good ordA := (good_vals.sub Fa.row).lex ((good_int Fa.lo).lex (good_int Fa.hi))
theorem cmpI_zero {a b : Int} : cmpI a b = 0 ↔ a = b := by
  unfold cmpI
  constructor
  · intro h
    split at h
    · cases h
    · split at h
      · cases h
      · omega
  · intro h
    rw [if_neg (by omega), if_neg (by omega)]
theorem cmpI_nonpos {a b : Int} : cmpI a b ≤ 0 ↔ a ≤ b := by
  unfold cmpI
  constructor
  · intro h
    split at h
    · omega
    · split at h
      · omega
      · omega
  · intro h
    split
    · omega
    · rw [if_neg (by omega)]; omega
theorem ordA_zero {x y : Fa} (h : ordA x y = 0) : x = y := by
  unfold ordA lex at h
  simp only at h
  split at h
  · rename_i h1
    split at h
    · rename_i h2
      obtain ⟨r, a, b⟩ := x
      obtain ⟨r', a', b'⟩ := y
      have e1 := cmpL_zero.1 h1
      have e2 := cmpI_zero.1 h2
      have e3 := cmpI_zero.1 h
      simp only at e1 e2 e3
      rw [e1, e2, e3]
    · rename_i h2; exact absurd h h2
  · rename_i h1; exact absurd h h1
/-- The normal form. -/
structure NF (F : List Fa) : Prop where
  lam : ∀ r, Lam (fam r F)
  srt : F.Pairwise (fun x y => ordA x y ≤ 0)
theorem fam_append (r : List Val) (A B : List Fa) : fam r (A ++ B) = fam r A ++ fam r B := by simp [fam]
theorem fam_none {r : List Val} {A : List Fa} (h : ∀ f ∈ A, f.row ≠ r) : fam r A = [] := by
  unfold fam
  rw [List.filter_eq_nil_iff.2 (fun f hf => by simpa using h f hf)]
  rfl
theorem fam_all {r : List Val} {A : List Fa} (h : ∀ f ∈ A, f.row = r) : fam r A = A.map Fa.iv := by
  unfold fam
  rw [List.filter_eq_self.2 (fun f hf => by simpa using h f hf)]
theorem count_fam (F : List Fa) (a : Fa) : F.count a = (fam a.row F).count a.iv := by
  unfold fam List.count
  rw [List.countP_map, List.countP_filter]
  apply List.countP_congr
  intro f _
  simp only [Function.comp, beq_iff_eq, Bool.and_eq_true, decide_eq_true_eq]
  constructor
  · intro h; subst h; exact ⟨rfl, rfl⟩
  · rintro ⟨h1, h2⟩
    obtain ⟨r, x, y⟩ := f
    obtain ⟨r', x', y'⟩ := a
    unfold Fa.iv at h1
    injection h1 with h3 h4
    simp only at h2 h3 h4
    rw [h2, h3, h4]
theorem sorted_unique : ∀ {A B : List Fa}, A.Pairwise (fun x y => ordA x y ≤ 0) → B.Pairwise (fun x y => ordA x y ≤ 0) → A.Perm B → A = B
  | [], B, _, _, h => (List.nil_perm.1 h).symm
  | a :: A, [], _, _, h => absurd h.length_eq (by simp)
  | a :: A, b :: B, hA, hB, h => by
    have a1 := List.pairwise_cons.1 hA
    have b1 := List.pairwise_cons.1 hB
    have e : a = b := by
      apply ordA_zero
      have h1 : ordA a b ≤ 0 := by
        rcases List.mem_cons.1 (h.mem_iff.2 (List.mem_cons_self ..) : b ∈ a :: A) with h1 | h1
        · rw [h1]; have := good_ordA.neg a a; omega
        · exact a1.1 b h1
      have h2 : ordA b a ≤ 0 := by
        rcases List.mem_cons.1 (h.mem_iff.1 (List.mem_cons_self ..) : a ∈ b :: B) with h1 | h1
        · rw [h1]; have := good_ordA.neg b b; omega
        · exact b1.1 a h1
      have := good_ordA.neg a b
      omega
    subst e
    rw [sorted_unique a1.2 b1.2 (List.perm_cons _ |>.1 h)]
/-- There is but one. -/
theorem NF.unique {A B : List Fa} (hA : NF A) (hB : NF B) (h : ∀ r t, cntF A r t = cntF B r t) : A = B := by
  refine sorted_unique hA.srt hB.srt (List.perm_iff_count.2 (fun a => ?_))
  rw [count_fam, count_fam]
  exact (lam_perm _ rfl (hA.lam a.row) (hB.lam a.row) (fun t => h a.row t)).count_eq _
/-- How often a row is there. -/
def sumR (S : List St) (r : List Val) (t : Int) : Int := sumS (S.filter (fun s => decide (s.row = r))) t
theorem sumR_append (A B : List St) (r : List Val) (t : Int) : sumR (A ++ B) r t = sumR A r t + sumR B r t := by unfold sumR; rw [List.filter_append, sumS_append]
theorem sumR_perm {A B : List St} (h : A.Perm B) (r : List Val) (t : Int) : sumR A r t = sumR B r t := sumS_perm (h.filter _) t
theorem sumR_none {A : List St} {r : List Val} (h : ∀ s ∈ A, s.row ≠ r) (t : Int) : sumR A r t = 0 := by
  unfold sumR
  rw [List.filter_eq_nil_iff.2 (fun f hf => by simpa using h f hf)]
  rfl
theorem sumR_all {A : List St} {r : List Val} (h : ∀ s ∈ A, s.row = r) (t : Int) : sumR A r t = sumS A t := by
  unfold sumR
  rw [List.filter_eq_self.2 (fun f hf => by simpa using h f hf)]
/-- The facts that steps come to. -/
structure Fo (S : List St) (F : List Fa) : Prop where
  nf : NF F
  cnt : ∀ r t, ((cntF F r t : Nat) : Int) = max (sumR S r t) 0
  len : (F.length : Int) ≤ absS S
  rows : ∀ f ∈ F, ∃ s ∈ S, s.row = f.row
theorem Fo.nil : Fo [] [] := ⟨⟨fun r => ⟨by simp [fam], by simp [fam]⟩, List.Pairwise.nil⟩, fun r t => by simp [cntF, cntI, fam, sumR, sumS, tot], by simp [absS, tot], by simp⟩
theorem Fo.perm {A B : List St} {F : List Fa} (h : Fo A F) (p : A.Perm B) : Fo B F :=
  ⟨h.nf, fun r t => by rw [h.cnt, sumR_perm p], by rw [← absS_perm p]; exact h.len, fun f hf => by obtain ⟨s, h1, h2⟩ := h.rows f hf; exact ⟨s, p.mem_iff.1 h1, h2⟩⟩
/-- One row more. -/
theorem Fo.next {A G : List St} {F U : List Fa} {r0 : List Val} (h : Fo A F) (hA : ∀ s ∈ A, cmpL s.row r0 < 0) (hG : ∀ s ∈ G, s.row = r0) (hne : G ≠ []) (hU : ∀ f ∈ U, f.row = r0) (hl : Lam (U.map Fa.iv)) (hs : U.Pairwise (fun x y => ordA x y ≤ 0))
    (hc : ∀ t, ((cntI (U.map Fa.iv) t : Nat) : Int) = max (sumS G t) 0) (hn : (U.length : Int) ≤ absS G) : Fo (A ++ G) (F ++ U) := by
  have hF : ∀ f ∈ F, cmpL f.row r0 < 0 := fun f hf => by obtain ⟨s, h1, h2⟩ := h.rows f hf; rw [← h2]; exact hA s h1
  have hFn : ∀ f ∈ F, f.row ≠ r0 := fun f hf e => by have := hF f hf; rw [e, cmpL_self] at this; omega
  have hAn : ∀ s ∈ A, s.row ≠ r0 := fun f hf e => by have := hA f hf; rw [e, cmpL_self] at this; omega
  refine ⟨⟨fun r => ?_, ?_⟩, fun r t => ?_, ?_, ?_⟩
  · by_cases e : r = r0
    · subst e
      rw [fam_append, fam_none hFn, fam_all hU]
      exact hl
    · rw [fam_append, fam_none (A := U) (fun f hf e' => e (by rw [← e', hU f hf])), List.append_nil]
      exact h.nf.lam r
  · rw [List.pairwise_append]
    refine ⟨h.nf.srt, hs, fun x hx y hy => ?_⟩
    unfold ordA lex
    have := hF x hx
    rw [← hU y hy] at this
    simp only
    rw [if_neg (by omega)]
    omega
  · unfold cntF
    by_cases e : r = r0
    · subst e
      rw [fam_append, fam_none hFn, fam_all hU, sumR_append, sumR_none hAn, sumR_all hG, List.nil_append, hc]
      congr 1
      omega
    · rw [fam_append, fam_none (A := U) (fun f hf e' => e (by rw [← e', hU f hf])), List.append_nil, sumR_append, sumR_none (A := G) (fun s hs e' => e (by rw [← e', hG s hs]))]
      have := h.cnt r t
      unfold cntF at this
      rw [this]
      congr 1
      omega
  · rw [List.length_append, absS_append]
    have := h.len
    omega
  · intro f hf
    rcases List.mem_append.1 hf with hf | hf
    · obtain ⟨s, h1, h2⟩ := h.rows f hf; exact ⟨s, List.mem_append_left _ h1, h2⟩
    · obtain ⟨s, hs⟩ := List.exists_mem_of_ne_nil G hne
      exact ⟨s, List.mem_append_right _ hs, by rw [hG s hs, hU f hf]⟩
/-- A row's facts: what its pieces come to. -/
theorem unfolded {G : List St} {Q : List Pc} (h : Lev G Q) {z : Int} (hz : ∃ p, Q.getLast? = some p ∧ p.hi = z) : Lam (unfoldL Q z) ∧ (∀ t, ((cntI (unfoldL Q z) t : Nat) : Int) = max (sumS G t) 0) ∧ ((unfoldL Q z).length : Int) ≤ absS G := by
  obtain ⟨x, z', c, h0, h1⟩ := h.chn
  have e : z' = z := by
    obtain ⟨p, hp, rfl⟩ := hz
    obtain ⟨Q', rfl⟩ : ∃ Q', Q = Q' ++ [p] := by
      have := List.getLast?_eq_some_iff.1 hp
      exact this
    exact c.last.2.2.symm
  subst e
  obtain ⟨a, b, _⟩ := unfold_ok c h.val h0 h1
  exact ⟨a, b, by rw [unfold_count]; exact h.opn⟩
theorem ordF_A {x y : Ft} (h : x.row = y.row) (hf : ¬ ordF y x < 0) : ordA x.fa y.fa ≤ 0 := by
  have h1 := good_ordF.neg x y
  have h2 : ordA x.fa y.fa = ordF x y := by
    rw [ordF_lex]
    unfold ordA
    have : cmpL x.fa.row y.fa.row = 0 := cmpL_zero.2 h
    rw [lex]
    rw [if_pos this]
    rfl
  omega
end Go.Proofs.YtlapifncplbcnaaGreat
