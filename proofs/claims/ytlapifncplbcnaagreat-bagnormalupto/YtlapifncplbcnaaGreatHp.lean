/- Normal forms, plainly: alike just if alike at each edge. -/
import Derived.Test.YtlapifncplbcnaaGreatHd
import Derived.Test.YtlapifncplbcnaaGreatLp
namespace Go.Proofs.YtlapifncplbcnaaGreat
set_option linter.unusedVariables false
set_option linter.unusedSimpArgs false

theorem Rising.tail {a : Int} {r : List Int} (h : Rising (a :: r)) : Rising r := by
  cases r with
  | nil => trivial
  | cons b r => exact h.2
theorem Rising.later {a : Int} {r : List Int} (h : Rising (a :: r)) : ∀ b ∈ r, a < b := by
  induction r generalizing a with
  | nil => intro b hb; cases hb
  | cons x r ih =>
    intro b hb
    rcases List.mem_cons.1 hb with rfl | hb
    · exact h.1
    · have := ih h.2 b hb; have := h.1; omega
theorem rise_between : ∀ {E : List Int}, Rising E → ∀ {i : Nat} {x y z : Int}, E[i]? = some x → E[i + 1]? = some y → z ∈ E → z ≤ x ∨ y ≤ z
  | [], _, _, _, _, _, h, _, _ => by simp at h
  | a :: E, hr, i, x, y, z, hx, hy, hz => by
    cases i with
    | zero =>
      simp at hx hy
      subst hx
      rcases List.mem_cons.1 hz with h | h
      · left; omega
      · right
        cases E with
        | nil => simp at hy
        | cons b E =>
          simp at hy
          subst hy
          rcases List.mem_cons.1 h with h | h
          · omega
          · have := hr.tail.later z h; omega
    | succ i =>
      simp at hx hy
      rcases List.mem_cons.1 hz with h | h
      · left
        have := hr.later x (List.mem_of_getElem? hx)
        omega
      · exact rise_between hr.tail hx hy h
theorem rise_span : ∀ {E : List Int}, Rising E → ∀ {t : Int}, (∃ z ∈ E, z ≤ t) → (∃ z ∈ E, t < z) → ∃ i x y, E[i]? = some x ∧ E[i + 1]? = some y ∧ x ≤ t ∧ t < y
  | [], _, _, ⟨z, hz, _⟩, _ => by cases hz
  | [a], _, t, ⟨z, hz, h1⟩, ⟨y, hy, h2⟩ => by simp at hz hy; omega
  | a :: b :: E, hr, t, ⟨z, hz, h1⟩, ⟨y, hy, h2⟩ => by
    by_cases hb : t < b
    · refine ⟨0, a, b, rfl, rfl, ?_, hb⟩
      rcases List.mem_cons.1 hz with h | h
      · omega
      · have h3 := hr.later
        rcases List.mem_cons.1 h with h | h
        · omega
        · have := hr.tail.later z h; omega
    · have hab := hr.1
      obtain ⟨i, x, y', h3, h4, h5, h6⟩ := rise_span hr.tail (t := t) ⟨b, by simp, by omega⟩ ⟨y, by
        rcases List.mem_cons.1 hy with h | h
        · omega
        · exact h, h2⟩
      exact ⟨i + 1, x, y', by simpa using h3, by simpa using h4, h5, h6⟩
theorem nF_between {L : List Ft} {E : List Int} (hE : IsEdges (L.map perF) E) {f : Ft} (hf : f ∈ L) {i : Nat} {x y t : Int} (hx : E[i]? = some x) (hy : E[i + 1]? = some y) (h1 : x ≤ t) (h2 : t < y) (r : List Val) : nF f r t = nF f r x := by
  unfold nF
  by_cases ho : okF f = true
  · have hr : Right (perF f) := (rightB_iff _).1 ho
    have k1 : f.lo ∈ E := (hE.2 _).2 ⟨perF f, List.mem_map.2 ⟨f, hf, rfl⟩, hr, .inl rfl⟩
    have k2 : f.hi ∈ E := (hE.2 _).2 ⟨perF f, List.mem_map.2 ⟨f, hf, rfl⟩, hr, .inr rfl⟩
    have a1 := rise_between hE.1 hx hy k1
    have a2 := rise_between hE.1 hx hy k2
    by_cases hc : f.lo ≤ x ∧ x < f.hi
    · have : f.lo ≤ t ∧ t < f.hi := by omega
      simp only [ho, hc, this, true_and]
    · have : ¬ (f.lo ≤ t ∧ t < f.hi) := by omega
      rw [if_neg (fun h => this ⟨h.2.2.1, h.2.2.2⟩), if_neg (fun h => hc ⟨h.2.2.1, h.2.2.2⟩)]
  · rw [if_neg (fun h => ho h.1), if_neg (fun h => ho h.1)]
theorem cN_between {L X : List Ft} {E : List Int} (hE : IsEdges (L.map perF) E) (hX : ∀ f ∈ X, f ∈ L) {i : Nat} {x y t : Int} (hx : E[i]? = some x) (hy : E[i + 1]? = some y) (h1 : x ≤ t) (h2 : t < y) (r : List Val) : cN X r t = cN X r x :=
  tot_congr (fun f hf => nF_between hE (hX f hf) hx hy h1 h2 r)
theorem cN_outside {L X : List Ft} {E : List Int} (hE : IsEdges (L.map perF) E) (hX : ∀ f ∈ X, f ∈ L) {t : Int} (h : ¬ ((∃ z ∈ E, z ≤ t) ∧ (∃ z ∈ E, t < z))) (r : List Val) : cN X r t = 0 := by
  refine tot_zero (fun f hf => ?_)
  unfold nF
  rw [if_neg]
  rintro ⟨ho, _, h1, h2⟩
  have hr : Right (perF f) := (rightB_iff _).1 ho
  exact h ⟨⟨f.lo, (hE.2 _).2 ⟨perF f, List.mem_map.2 ⟨f, hX f hf, rfl⟩, hr, .inl rfl⟩, h1⟩, ⟨f.hi, (hE.2 _).2 ⟨perF f, List.mem_map.2 ⟨f, hX f hf, rfl⟩, hr, .inr rfl⟩, h2⟩⟩
theorem cN_edges {L X Y : List Ft} {E : List Int} (hE : IsEdges (L.map perF) E) (hX : ∀ f ∈ X, f ∈ L) (hY : ∀ f ∈ Y, f ∈ L) (h : ∀ i x y, E[i]? = some x → E[i + 1]? = some y → ∀ r, cN X r x = cN Y r x) (r : List Val) (t : Int) : cN X r t = cN Y r t := by
  by_cases c : (∃ z ∈ E, z ≤ t) ∧ (∃ z ∈ E, t < z)
  · obtain ⟨i, x, y, hx, hy, h1, h2⟩ := rise_span hE.1 c.1 c.2
    rw [cN_between hE hX hx hy h1 h2, cN_between hE hY hx hy h1 h2, h i x y hx hy]
  · rw [cN_outside hE hX c, cN_outside hE hY c]
theorem srt_unique : ∀ {A B : List (List Val)}, A.Pairwise (fun a b => 0 ≤ cmpL b a) → B.Pairwise (fun a b => 0 ≤ cmpL b a) → A.Perm B → A = B
  | [], B, _, _, h => by have := h.length_eq; simp at this; exact (List.eq_nil_of_length_eq_zero this.symm).symm
  | a :: A, [], _, _, h => by have := h.length_eq; simp at this
  | a :: A, b :: B, hA, hB, h => by
    have e : a = b := by
      rw [List.pairwise_cons] at hA hB
      have h1 : 0 ≤ cmpL b a := by
        rcases List.mem_cons.1 (h.mem_iff.2 (List.mem_cons_self ..) : b ∈ a :: A) with h1 | h1
        · rw [h1, cmpL_self]; omega
        · exact hA.1 b h1
      have h2 : 0 ≤ cmpL a b := by
        rcases List.mem_cons.1 (h.mem_iff.1 (List.mem_cons_self ..) : a ∈ b :: B) with h1 | h1
        · rw [h1, cmpL_self]; omega
        · exact hB.1 a h1
      have := good_vals.neg a b
      exact cmpL_zero.1 (by omega)
    subst e
    rw [srt_unique (List.pairwise_cons.1 hA).2 (List.pairwise_cons.1 hB).2 (List.perm_cons _ |>.1 h)]
theorem rows_same {X Y : List Ft} {t : Int} {R S : List Rw} (hR : (R.map Rw.row).Perm (rowsAt X t)) (sR : R.Pairwise (fun a b => 0 ≤ cmpL b.row a.row)) (hS : (S.map Rw.row).Perm (rowsAt Y t)) (sS : S.Pairwise (fun a b => 0 ≤ cmpL b.row a.row)) :
    R.map Rw.row = S.map Rw.row ↔ ∀ r, cN X r t = cN Y r t := by
  constructor
  · intro e r
    rw [← rows_count, ← rows_count, ← hR.count_eq, ← hS.count_eq, e]
  · intro h
    refine srt_unique (by rw [List.pairwise_map]; exact sR) (by rw [List.pairwise_map]; exact sS) (List.perm_iff_count.2 (fun r => ?_))
    rw [hR.count_eq, hS.count_eq]
    have := h r
    rw [← rows_count, ← rows_count] at this
    omega
/-- Two lists say the same at each edge. -/
def AlkI (X Y : List Ft) (K : List Ce) : Prop := ∀ x ∈ K, ∀ r, cN X r x.lo = cN Y r x.lo
theorem norm_iff {B : Nat} {W : World} {v : Value} {X Y F G : List Ft} {E : List Int} {K : List Ce} (h1 : Fo (stepsL X 1) (F.map Ft.fa)) (h2 : Fo (stepsL Y 1) (G.map Ft.fa)) (hE : IsEdges ((X ++ Y).map perF) E) (hK : CsI B W v (X ++ Y) E K) (hl : K.length = E.length - 1) :
    F.map Ft.fa = G.map Ft.fa ↔ AlkI X Y K := by
  have c1 : ∀ r t, cN F r t = cN X r t := fun r t => by
    rw [h1.cN (Rts.steps _ _), sumR_steps, Int.one_mul]
    have := cN_nonneg X r t
    omega
  have c2 : ∀ r t, cN G r t = cN Y r t := fun r t => by
    rw [h2.cN (Rts.steps _ _), sumR_steps, Int.one_mul]
    have := cN_nonneg Y r t
    omega
  constructor
  · intro e x hx r
    rw [← c1, ← c2, cN_fa, cN_fa, e]
  · intro h
    refine h1.same h2 (fun r t => ?_)
    rw [sumR_steps, sumR_steps, Int.one_mul, Int.one_mul, cN_edges hE (fun f hf => List.mem_append_left _ hf) (fun f hf => List.mem_append_right _ hf) (fun i x y hx hy r => ?_) r t]
    have hy2 := (List.getElem?_eq_some_iff.1 hy).1
    obtain ⟨c, hc⟩ : ∃ c, K[i]? = some c := ⟨_, List.getElem?_eq_getElem (by omega)⟩
    have h3 := (hK.at' i c hc).1
    rw [hx] at h3
    injection h3 with h3
    rw [h3]
    exact h c (List.mem_of_getElem? hc) r
theorem norm_again {X F N : List Ft} (h : Fo (stepsL X 1) (F.map Ft.fa)) (k : Fo (stepsL F 1) (N.map Ft.fa)) : N.map Ft.fa = F.map Ft.fa := by
  refine k.same h (fun r t => ?_)
  rw [sumR_steps, Int.one_mul, h.cN (Rts.steps _ _)]
  omega
/-- A fact cut in two. -/
def turnF (cut : Int) (f : Ft) : List Ft := if rightB ⟨f.lo, f.hi⟩ = true ∧ f.lo < cut ∧ cut < f.hi then [⟨f.p, f.c, f.row, f.lo, cut⟩, ⟨f.p, f.c, f.row, cut, f.hi⟩] else [f]
def turnL (cut : Int) (L : List Ft) : List Ft := L.flatMap (turnF cut)
theorem cN_turnF (cut : Int) (f : Ft) (r : List Val) (t : Int) : cN (turnF cut f) r t = nF f r t := by
  unfold turnF
  split
  · rename_i h
    obtain ⟨h1, h2, h3⟩ := h
    have hr := (rightB_iff _).1 h1
    have k1 : okF ⟨f.p, f.c, f.row, f.lo, cut⟩ = true := (rightB_iff _).2 (by unfold Right at *; simp only at *; omega)
    have k2 : okF ⟨f.p, f.c, f.row, cut, f.hi⟩ = true := (rightB_iff _).2 (by unfold Right at *; simp only at *; omega)
    have k3 : okF f = true := h1
    simp only [cN, tot, nF, k1, k2, k3, true_and]
    by_cases hrr : f.row = r
    · simp only [hrr, true_and]
      by_cases ha : f.lo ≤ t ∧ t < f.hi
      · rw [if_pos ha]
        by_cases hb : t < cut
        · rw [if_pos (by omega), if_neg (by omega)]; omega
        · rw [if_neg (by omega), if_pos (by omega)]; omega
      · rw [if_neg ha, if_neg (by omega), if_neg (by omega)]; omega
    · simp [hrr]
  · simp [cN, tot]
theorem cN_turnL (cut : Int) (L : List Ft) (r : List Val) (t : Int) : cN (turnL cut L) r t = cN L r t := by
  induction L with
  | nil => rfl
  | cons x L ih =>
    have e : turnL cut (x :: L) = turnF cut x ++ turnL cut L := by simp [turnL]
    have e2 : cN (x :: L) r t = nF x r t + cN L r t := rfl
    rw [e, cN_append, ih, cN_turnF, e2]
theorem turnF_len (cut : Int) (f : Ft) : (turnF cut f).length ≤ 2 := by unfold turnF; split <;> simp
theorem turnL_len (cut : Int) (L : List Ft) : (turnL cut L).length ≤ 2 * L.length := by
  induction L with
  | nil => simp [turnL]
  | cons x L ih =>
    have e : turnL cut (x :: L) = turnF cut x ++ turnL cut L := by simp [turnL]
    have := turnF_len cut x
    rw [e, List.length_append, List.length_cons]; omega
theorem turnF_row {cut : Int} {f g : Ft} (h : g ∈ turnF cut f) : g.p = f.p ∧ g.c = f.c ∧ g.row = f.row := by
  unfold turnF at h
  split at h
  · simp at h; rcases h with rfl | rfl <;> exact ⟨rfl, rfl, rfl⟩
  · simp at h; subst h; exact ⟨rfl, rfl, rfl⟩
theorem turnL_row {cut : Int} {L : List Ft} {g : Ft} (h : g ∈ turnL cut L) : ∃ f ∈ L, g.p = f.p ∧ g.c = f.c ∧ g.row = f.row := by
  obtain ⟨f, hf, hg⟩ := List.mem_flatMap.1 h
  exact ⟨f, hf, turnF_row hg⟩
theorem drop_rev {L : List Ft} {i : Nat} {f : Ft} (h : L[i]? = some f) : (L.drop i).reverse = (L.drop (i + 1)).reverse ++ [f] := by
  obtain ⟨h1, h2⟩ := List.getElem?_eq_some_iff.1 h
  rw [List.drop_eq_getElem_cons h1, h2, List.reverse_cons]
theorem turn_next {cut : Int} {L : List Ft} {i : Nat} {f : Ft} (h : L[i]? = some f) : turnL cut (L.drop i).reverse = turnL cut (L.drop (i + 1)).reverse ++ turnF cut f := by
  rw [drop_rev h]; simp [turnL]
theorem norm_turned {X F N : List Ft} {cut : Int} (h : Fo (stepsL X 1) (F.map Ft.fa)) (k : Fo (stepsL (turnL cut X.reverse) 1) (N.map Ft.fa)) : N.map Ft.fa = F.map Ft.fa := by
  refine k.same h (fun r t => ?_)
  rw [sumR_steps, sumR_steps, Int.one_mul, Int.one_mul, cN_turnL]
  congr 1
  exact tot_perm _ (List.reverse_perm X)
end Go.Proofs.YtlapifncplbcnaaGreat
