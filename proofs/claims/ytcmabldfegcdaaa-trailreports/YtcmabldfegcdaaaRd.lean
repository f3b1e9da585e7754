/- What the document's Analyse comes to, plainly, and what it keeps in memory. -/
import Derived.Test.YtcmabldfegcdaaaRb
namespace Go.Proofs.Ytcmabldfegcdaaa
open Go.RowKit
set_option maxRecDepth 100000
set_option linter.unusedVariables false
set_option linter.unusedSimpArgs false

def dE (E : List Ent) : List Er := E.map fun e => (e, none, 0)
def lostP (E : List Ent) (k : Nat) : List Int := ((E.take k).filter fun e => !comP E E.length e.txn).map Ent.txn
def pagP (E : List Ent) (k : Nat) : List Int := ((E.take k).filter fun e => !decide (e.kind = 3)).map Ent.page
def lastP (E : List Ent) : Nat → Int
  | 0 => 0
  | k + 1 => match E[k]? with
    | some e => if lastP E k < e.txn then e.txn else lastP E k
    | none => lastP E k
theorem lostP_succ {E : List Ent} {j : Nat} {e : Ent} (h : E[j]? = some e) : lostP E (j + 1) = lostP E j ++ (if comP E E.length e.txn = true then [] else [e.txn]) := by
  unfold lostP
  rw [List.take_add_one, h]
  simp only [Option.toList_some, List.filter_append, List.map_append]
  cases hc : comP E E.length e.txn <;> simp [List.filter, hc]
theorem pagP_succ {E : List Ent} {j : Nat} {e : Ent} (h : E[j]? = some e) : pagP E (j + 1) = pagP E j ++ (if e.kind = 3 then [] else [e.page]) := by
  unfold pagP
  rw [List.take_add_one, h]
  simp only [Option.toList_some, List.filter_append, List.map_append]
  by_cases hc : e.kind = 3 <;> simp [List.filter, hc]
theorem lastP_succ {E : List Ent} {j : Nat} {e : Ent} (h : E[j]? = some e) : lastP E (j + 1) = if lastP E j < e.txn then e.txn else lastP E j := by
  show (match E[j]? with | some e => _ | none => _) = _
  rw [h]
theorem length_lostP (E : List Ent) (k : Nat) : (lostP E k).length ≤ k := by
  unfold lostP
  rw [List.length_map]
  have h1 := List.length_filter_le (fun e => !comP E E.length e.txn) (E.take k)
  have h2 := List.length_take_le k E
  omega
theorem length_pagP (E : List Ent) (k : Nat) : (pagP E k).length ≤ k := by
  unfold pagP
  rw [List.length_map]
  have h1 := List.length_filter_le (fun e : Ent => !decide (e.kind = 3)) (E.take k)
  have h2 := List.length_take_le k E
  omega
theorem run_succ (M : List Int) (E : List Ent) {k : Nat} {e : Ent} (h : E[k]? = some e) : runS M (dE E) (k + 1) = stepS (runS M (dE E) k) e (M.getD k 0) := by
  show (match (dE E)[k]? with | some x => stepS (runS M (dE E) k) x.1 (M.getD k 0) | .none => runS M (dE E) k) = _
  rw [show (dE E)[k]? = some (e, none, 0) by simp [dE, h]]
theorem none_or' (o : Option Int) : (o = none ∨ o = some 0) ↔ o.getD 0 = 0 := by cases o <;> simp
theorem run_com (M : List Int) (E : List Ent) : ∀ k, k ≤ E.length → ∀ t, 0 ≤ ((runS M (dE E) k).f t).getD 0 ∧ (((runS M (dE E) k).f t).getD 0 = 0 ↔ comP E k t = false) ∧ (((runS M (dE E) k).f t).isSome = true ↔ ∃ e ∈ E.take k, e.txn = t)
  | 0, _, t => by simp [runS, Sn.none, comP]
  | k + 1, hk, t => by
    obtain ⟨e, he⟩ : ∃ e, E[k]? = some e := ⟨_, List.getElem?_eq_getElem (by omega)⟩
    obtain ⟨h1, h2, h3⟩ := run_com M E k (by omega) t
    have hm : (∃ e' ∈ E.take (k + 1), e'.txn = t) ↔ (∃ e' ∈ E.take k, e'.txn = t) ∨ e.txn = t := by
      rw [List.take_add_one, he]
      simp only [Option.toList_some, List.mem_append, List.mem_singleton]
      constructor
      · rintro ⟨x, hx | hx, hy⟩
        · exact .inl ⟨x, hx, hy⟩
        · subst hx; exact .inr hy
      · rintro (⟨x, hx, hy⟩ | hy)
        · exact ⟨x, .inl hx, hy⟩
        · exact ⟨e, .inr rfl, hy⟩
    rw [run_succ M E he, comP_succ he, hm, ← h3]
    by_cases hq : e.kind = 3
    · rw [stepS_commit _ _ _ hq]
      by_cases ht : t = e.txn
      · subst ht
        have h1' := h1
        simp only [if_true, Option.getD_some, Option.isSome_some, hq, decide_true, Bool.and_self, Bool.or_true, Bool.true_eq_false, iff_false, or_true, iff_self, and_true]
        omega
      · have ht' : ¬ e.txn = t := fun h => ht h.symm
        simp only [ht, if_false, hq, ht', decide_true, decide_false, Bool.and_false, Bool.or_false, or_false, iff_self, and_true]
        exact ⟨h1, h2⟩
    · rw [stepS_touch _ _ _ hq]
      by_cases ht : t = e.txn
      · subst ht
        simp only [if_true, Option.getD_some, Option.isSome_some, hq, decide_false, Bool.false_and, Bool.or_false, or_true, iff_self, and_true]
        exact ⟨h1, h2⟩
      · have ht' : ¬ e.txn = t := fun h => ht h.symm
        simp only [ht, if_false, hq, ht', decide_false, Bool.false_and, Bool.or_false, or_false, iff_self, and_true]
        exact ⟨h1, h2⟩
/-- The commits, by one more entry. -/
theorem run_C (M : List Int) (E : List Ent) {k : Nat} {e : Ent} (he : E[k]? = some e) : (runS M (dE E) (k + 1)).C = if e.kind = 3 ∧ comP E k e.txn = false then (runS M (dE E) k).C ++ [⟨e.txn, e.stamp⟩] else (runS M (dE E) k).C := by
  have hk : k < E.length := (List.getElem?_eq_some_iff.1 he).1
  have h2 := (run_com M E k (by omega) e.txn).2.1
  rw [run_succ M E he]
  by_cases hq : e.kind = 3
  · rw [stepS_commit _ _ _ hq]
    simp only [none_or', h2, hq, true_and]
  · rw [stepS_touch _ _ _ hq]
    simp only [hq, false_and, if_false]
theorem run_fp (M : List Int) (E : List Ent) {k : Nat} {e : Ent} (he : E[k]? = some e) (p : Int) : (runS M (dE E) (k + 1)).fp p = if ¬ e.kind = 3 ∧ p = e.page then some ⟨e.page, (((runS M (dE E) k).fp p).map Tch.first).getD (M.getD k 0), M.getD k 0⟩ else (runS M (dE E) k).fp p := by
  rw [run_succ M E he]
  by_cases hq : e.kind = 3
  · rw [stepS_commit _ _ _ hq]
    simp only [hq, not_true, false_and, if_false]
  · rw [stepS_touch _ _ _ hq]
    by_cases hp : p = e.page
    · subst hp; simp only [hq, not_false_iff, true_and, if_true]
    · simp only [hp, and_false, if_false]
theorem run_pag (M : List Int) (E : List Ent) : ∀ k, k ≤ E.length → ∀ p, ((runS M (dE E) k).fp p).isSome = true ↔ p ∈ pagP E k
  | 0, _, p => by simp [runS, Sn.none, pagP]
  | k + 1, hk, p => by
    obtain ⟨e, he⟩ : ∃ e, E[k]? = some e := ⟨_, List.getElem?_eq_getElem (by omega)⟩
    rw [run_fp M E he p, pagP_succ he, List.mem_append, ← run_pag M E k (by omega) p]
    by_cases hq : e.kind = 3
    · simp [hq]
    · by_cases hp : p = e.page
      · simp [hq, hp]
      · simp [hq, hp]
/-- A page's marks while they are looked for. -/
def inD (o : Option Tch) (x1 x2 : Int) (first : Bool) : Prop := match o with
  | none => first = true ∧ x1 = 0 ∧ x2 = 0
  | some y => first = false ∧ x1 = y.first ∧ x2 = y.last
/-- A page with its marks. -/
def ttP (M : List Int) (E : List Ent) (p : Int) : Tch := ((runS M (dE E) E.length).fp p).getD ⟨p, 0, 0⟩
theorem inD_end (M : List Int) (E : List Ent) {n : Nat} (hn : E.length = n) {p x1 x2 : Int} {first : Bool} (h : inD ((runS M (dE E) n).fp p) x1 x2 first) : (⟨p, x1, x2⟩ : Tch) = ttP M E p := by
  subst hn
  unfold ttP
  cases hf : (runS M (dE E) E.length).fp p with
  | none => rw [hf] at h; obtain ⟨_, rfl, rfl⟩ := h; rfl
  | some y =>
    rw [hf] at h
    obtain ⟨_, rfl, rfl⟩ := h
    have := page_run M (dE E) E.length p y hf
    subst this
    rfl
theorem ttP_page (M : List Int) (E : List Ent) (p : Int) : (ttP M E p).page = p := by
  unfold ttP
  cases hf : (runS M (dE E) E.length).fp p with
  | none => rfl
  | some y => exact page_run M (dE E) E.length p y hf

/-- Numbers told one by one, rising. -/
structure StepB (L Z : List Int) (t : Int) (ok : Bool) : Prop where
  rise : Z.Pairwise (· < ·)
  sub : ∀ x ∈ Z, x ∈ L
  next : ok = true → t ∈ L ∧ ∀ z ∈ Z, z < t
  all : ∀ x ∈ L, x ∈ Z ∨ (ok = true ∧ t ≤ x)
theorem StepB.start {L : List Int} {a t : Int} {ok : Bool} (h : LeastOf L a false t ok) : StepB L [] t ok :=
  ⟨List.Pairwise.nil, fun x hx => (by cases hx), fun hk => ⟨(h.1 hk).1, fun z hz => (by cases hz)⟩, fun x hx => .inr (h.2 x hx (fun hq => by cases hq))⟩
theorem StepB.more {L Z : List Int} {t t' : Int} {ok' : Bool} (h : StepB L Z t true) (hl : LeastOf L t true t' ok') : StepB L (Z ++ [t]) t' ok' := by
  obtain ⟨h1, h2⟩ := h.next rfl
  refine ⟨?_, ?_, ?_, ?_⟩
  · rw [List.pairwise_append]
    exact ⟨h.rise, List.pairwise_singleton _ _, fun a ha b hb => by rw [List.mem_singleton] at hb; subst hb; exact h2 a ha⟩
  · intro x hx
    rcases List.mem_append.1 hx with hx | hx
    · exact h.sub x hx
    · rw [List.mem_singleton] at hx; subst hx; exact h1
  · intro hk
    obtain ⟨g1, g2⟩ := hl.1 hk
    have g2 := g2 rfl
    refine ⟨g1, fun z hz => ?_⟩
    rcases List.mem_append.1 hz with hz | hz
    · have := h2 z hz; omega
    · rw [List.mem_singleton] at hz; subst hz; exact g2
  · intro x hx
    rcases h.all x hx with hz | ⟨_, hz⟩
    · exact .inl (List.mem_append_left _ hz)
    · by_cases he : x = t
      · subst he; exact .inl (List.mem_append_right _ (by simp))
      · exact .inr (hl.2 x hx (fun _ => by omega))
theorem StepB.done {L Z : List Int} {t : Int} (h : StepB L Z t false) (x : Int) : x ∈ Z ↔ x ∈ L :=
  ⟨h.sub x, fun hx => by rcases h.all x hx with h1 | ⟨h1, _⟩; exact h1; cases h1⟩
theorem StepB.len {L Z : List Int} {t : Int} {ok : Bool} (h : StepB L Z t ok) : Z.length ≤ L.length :=
  sub_len Z L (by rw [List.nodup_iff_pairwise_ne]; exact h.rise.imp (fun h => by omega)) h.sub
def okOf : Value → Bool
  | .bool b => b
  | _ => false
def cntB (L : List Int) (t : Int) (ok : Bool) : Nat := if ok = true then (L.filter fun x => decide (t ≤ x)).length else 0
theorem filter_less : ∀ (L : List Int) (p q : Int → Bool), (∀ x, q x = true → p x = true) → (∃ t ∈ L, p t = true ∧ q t = false) → (L.filter q).length < (L.filter p).length
  | [], p, q, _, ⟨t, ht, _⟩ => by cases ht
  | a :: L, p, q, hs, ⟨t, ht, h1, h2⟩ => by
    have hle : ∀ L : List Int, (L.filter q).length ≤ (L.filter p).length := by
      intro L
      induction L with
      | nil => simp
      | cons b L ih =>
        simp only [List.filter_cons]
        by_cases hb : q b = true
        · simp [hb, hs b hb]; exact ih
        · by_cases hp : p b = true <;> simp [hb, hp] <;> omega
    simp only [List.filter_cons]
    rcases List.mem_cons.1 ht with rfl | ht
    · have := hle L
      simp [h1, h2]; omega
    · have ih := filter_less L p q hs ⟨t, ht, h1, h2⟩
      by_cases hb : q a = true
      · simp [hb, hs a hb]; exact ih
      · by_cases hp : p a = true <;> simp [hb, hp] <;> omega
theorem cntB_lt {L : List Int} {t t' : Int} {ok' : Bool} (ht : t ∈ L) (h : ok' = true → t < t') : cntB L t' ok' < cntB L t true := by
  unfold cntB
  cases ok' with
  | false =>
    simp only [Bool.false_eq_true, if_false, if_true]
    exact List.length_pos_of_mem (List.mem_filter.2 ⟨ht, by simp⟩)
  | true =>
    simp only [if_true]
    have := h rfl
    exact filter_less L _ _ (fun x hx => by simp at hx ⊢; omega) ⟨t, ht, by simp, by simp; omega⟩

/-- Blocks that are apart. -/
def Sep (L : List (Option Nat)) : Prop := ∀ i j k : Nat, i ≠ j → L[i]? = some (some k) → L[j]? ≠ some (some k)
theorem Sep.put {L : List (Option Nat)} (h : Sep L) {i : Nat} {o o' : Option Nat} {N : Nat} (hi : L[i]? = some o) (hN : ∀ j k : Nat, L[j]? = some (some k) → k < N) (ho : o' = o ∨ ∃ k, o' = some k ∧ N ≤ k) : Sep (L.set i o') := by
  rcases ho with rfl | ⟨k', rfl, hk'⟩
  · have : L.set i o' = L := by
      apply List.ext_getElem?
      intro j
      rw [List.getElem?_set]
      split
      · rename_i hj; subst hj; rw [hi]; simp [(List.getElem?_eq_some_iff.1 hi).1]
      · rfl
    rw [this]; exact h
  · intro x y k hxy hx hy
    rw [List.getElem?_set] at hx hy
    split at hx
    · split at hy
      · rename_i a b; exact hxy (a.symm.trans b)
      · split at hx
        · have := Option.some.inj (Option.some.inj hx)
          have := hN y k hy
          omega
        · cases hx
    · split at hy
      · split at hy
        · have := Option.some.inj (Option.some.inj hy)
          have := hN x k hx
          omega
        · cases hy
      · exact h x y k hxy hx hy
end Go.Proofs.Ytcmabldfegcdaaa
