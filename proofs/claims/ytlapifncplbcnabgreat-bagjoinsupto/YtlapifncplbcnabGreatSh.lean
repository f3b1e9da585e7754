/- How many facts there can be. -/
import Derived.Test.YtlapifncplbcnabGreatJl
namespace Go.Proofs.YtlapifncplbcnabGreat
set_option linter.unusedVariables false
set_option linter.unusedSimpArgs false

section
variable {κ : Type} [DecidableEq κ]
/-- Each once. -/
def ddk : List κ → List κ
  | [] => []
  | x :: l => if x ∈ l then ddk l else x :: ddk l
theorem mem_ddk {a : κ} : ∀ {l : List κ}, a ∈ ddk l ↔ a ∈ l
  | [] => Iff.rfl
  | x :: l => by
    unfold ddk
    split
    · rename_i h
      rw [mem_ddk]
      constructor
      · exact fun h2 => List.mem_cons_of_mem _ h2
      · intro h2
        rcases List.mem_cons.1 h2 with h2 | h2
        · rw [h2]; exact h
        · exact h2
    · rw [List.mem_cons, List.mem_cons, mem_ddk]
theorem nodup_ddk : ∀ l : List κ, (ddk l).Nodup
  | [] => List.nodup_nil
  | x :: l => by
    unfold ddk
    split
    · exact nodup_ddk l
    · rename_i h
      exact List.nodup_cons.2 ⟨fun h2 => h (mem_ddk.1 h2), nodup_ddk l⟩
theorem tot_hit (c : Int) (a : κ) : ∀ {R : List κ}, R.Nodup → tot (fun r => if a = r then c else 0) R = if a ∈ R then c else 0
  | [], _ => by simp [tot]
  | x :: R, hn => by
    simp only [tot]
    have hn2 := List.nodup_cons.1 hn
    rw [tot_hit c a hn2.2]
    by_cases e : a = x
    · subst e
      rw [if_pos rfl, if_neg hn2.1, if_pos (List.mem_cons_self ..)]; omega
    · rw [if_neg e]
      by_cases h : a ∈ R
      · rw [if_pos h, if_pos (List.mem_cons_of_mem _ h)]; omega
      · rw [if_neg h, if_neg (fun h2 => by rcases List.mem_cons.1 h2 with h2 | h2; exact e h2; exact h h2)]; rfl
theorem tot_swap {α β : Type} (f : α → β → Int) (A : List α) (B : List β) : tot (fun x => tot (fun y => f x y) B) A = tot (fun y => tot (fun x => f x y) A) B := by
  induction A with
  | nil => simp only [tot]; exact (tot_zero (fun _ _ => rfl)).symm
  | cons x A ih => simp only [tot]; rw [ih, ← tot_add]
theorem len_keys {α : Type} (key : α → κ) (A : List α) (R : List κ) (hR : R.Nodup) (h : ∀ x ∈ A, key x ∈ R) : (A.length : Int) = tot (fun r => tot (fun x => if key x = r then 1 else 0) A) R := by
  rw [tot_swap]
  have e : tot (fun x => tot (fun r => if key x = r then (1 : Int) else 0) R) A = tot (fun _ => 1) A := tot_congr (fun x hx => by rw [tot_hit 1 (key x) hR, if_pos (h x hx)])
  rw [e]
  clear h e
  induction A with
  | nil => rfl
  | cons x A ih => simp only [tot, List.length_cons]; omega
end
/-- How many begin, end at an instant. -/
def begI (A : List Iv) (t : Int) : Int := tot (fun a => if a.lo = t then 1 else 0) A
def endI (A : List Iv) (t : Int) : Int := tot (fun a => if a.hi = t then 1 else 0) A
theorem cnt_step {A : List Iv} (h : ∀ a ∈ A, a.lo < a.hi) (t : Int) : ((cntI A t : Nat) : Int) + endI A t = ((cntI A (t - 1) : Nat) : Int) + begI A t := by
  induction A with
  | nil => rfl
  | cons a A ih =>
    have h1 := ih (fun b hb => h b (List.mem_cons_of_mem _ hb))
    have h2 := h a (List.mem_cons_self ..)
    have e : ∀ t, ((cntI (a :: A) t : Nat) : Int) = (if a.lo ≤ t ∧ t < a.hi then 1 else 0) + ((cntI A t : Nat) : Int) := by
      intro t
      unfold cntI
      rw [List.countP_cons]
      by_cases c : a.lo ≤ t ∧ t < a.hi
      · simp [Iv.at, c]; omega
      · simp [Iv.at, c]
    rw [e, e]
    unfold begI endI at *
    simp only [tot]
    by_cases c1 : a.lo ≤ t ∧ t < a.hi
    · rw [if_pos c1, if_neg (c := a.hi = t) (by omega)]
      by_cases c2 : a.lo = t
      · rw [if_pos c2, if_neg (c := a.lo ≤ t - 1 ∧ t - 1 < a.hi) (by omega)]; omega
      · rw [if_neg c2, if_pos (c := a.lo ≤ t - 1 ∧ t - 1 < a.hi) (by omega)]; omega
    · rw [if_neg c1, if_neg (c := a.lo = t) (by omega)]
      by_cases c2 : a.hi = t
      · rw [if_pos c2, if_pos (c := a.lo ≤ t - 1 ∧ t - 1 < a.hi) (by omega)]; omega
      · rw [if_neg c2, if_neg (c := a.lo ≤ t - 1 ∧ t - 1 < a.hi) (by omega)]; omega
theorem beg_le {A : List Iv} (h : Lam A) {t : Int} (hp : 0 < begI A t) : begI A t = ((cntI A t : Nat) : Int) - ((cntI A (t - 1) : Nat) : Int) := by
  have h1 := cnt_step h.1 t
  have h2 : endI A t = 0 := by
    obtain ⟨a, ha, ha2⟩ := tot_pos hp
    have ea : a.lo = t := by
      by_cases c : a.lo = t
      · exact c
      · rw [if_neg c] at ha2; omega
    refine tot_zero (fun b hb => ?_)
    by_cases c : b.hi = t
    · exfalso
      have h3 := h.two ha hb
      have h4 := h.1 a ha
      have h5 := h.1 b hb
      unfold Compat at h3
      omega
    · rw [if_neg c]
  omega
/-- What goes up at an instant. -/
def upS (S : List St) (r : List Val) (t : Int) : Int := tot (fun s => if s.row = r ∧ (if 0 < s.n then s.lo else s.hi) = t then (s.n.natAbs : Int) else 0) S
theorem up_nonneg (S : List St) (r : List Val) (t : Int) : 0 ≤ upS S r t := tot_nonneg (fun s => by split <;> omega)
theorem sum_up (S : List St) (r : List Val) (t : Int) : sumR S r t - sumR S r (t - 1) ≤ upS S r t := by
  rw [sumR_tot, sumR_tot]
  unfold upS
  induction S with
  | nil => simp [tot]
  | cons s S ih =>
    simp only [tot]
    have key : hitR s.row r * atS s t - hitR s.row r * atS s (t - 1) ≤ (if s.row = r ∧ (if 0 < s.n then s.lo else s.hi) = t then (s.n.natAbs : Int) else 0) := by
      unfold hitR
      by_cases e : s.row = r
      · simp only [e, if_true, true_and, Int.one_mul]
        unfold atS
        by_cases hn : 0 < s.n
        · rw [if_pos hn]
          by_cases c1 : s.lo ≤ t ∧ t < s.hi
          · rw [if_pos c1]
            by_cases c2 : s.lo = t
            · rw [if_pos c2]; split <;> omega
            · rw [if_neg c2, if_pos (by omega)]; omega
          · rw [if_neg c1]; split <;> split <;> omega
        · rw [if_neg hn]
          by_cases c1 : s.lo ≤ t - 1 ∧ t - 1 < s.hi
          · rw [if_pos c1]
            by_cases c2 : s.hi = t
            · rw [if_pos c2]; split <;> omega
            · rw [if_neg c2, if_pos (by omega)]; omega
          · rw [if_neg c1]; split <;> split <;> omega
      · simp [e]
    omega
theorem beg_fam (r : List Val) (t : Int) : ∀ F : List Fa, tot (fun f : Fa => if (f.row, f.lo) = (r, t) then (1 : Int) else 0) F = begI (fam r F) t
  | [] => rfl
  | f :: F => by
    simp only [tot]
    rw [beg_fam r t F]
    by_cases e : f.row = r
    · have e1 : fam r (f :: F) = f.iv :: fam r F := by unfold fam; rw [List.filter_cons, if_pos (by simpa using e)]; rfl
      rw [e1]
      unfold begI
      simp only [tot]
      congr 1
      by_cases c : f.lo = t
      · rw [if_pos (by rw [e, c]), if_pos (show f.iv.lo = t from c)]
      · rw [if_neg (fun h => c (Prod.mk.inj h).2), if_neg (show ¬ f.iv.lo = t from c)]
    · have e1 : fam r (f :: F) = fam r F := by unfold fam; rw [List.filter_cons, if_neg (by simpa using e)]
      rw [e1, if_neg (fun h => e (Prod.mk.inj h).1)]
      omega
/-- No more facts than steps say. -/
theorem Fo.short {S S' : List St} {F : List Fa} (h : Fo S F) (he : ∀ r t, sumR S r t = sumR S' r t) : (F.length : Int) ≤ absS S' := by
  obtain ⟨K, hK⟩ : ∃ K, K = ddk (F.map (fun f : Fa => (f.row, f.lo))) := ⟨_, rfl⟩
  have hn : K.Nodup := by rw [hK]; exact nodup_ddk _
  rw [len_keys (fun f : Fa => (f.row, f.lo)) F K hn (fun f hf => by rw [hK, mem_ddk]; exact List.mem_map.2 ⟨f, hf, rfl⟩)]
  have h1 : ∀ k ∈ K, tot (fun f : Fa => if (f.row, f.lo) = k then (1 : Int) else 0) F ≤ upS S' k.1 k.2 := by
    intro k _
    obtain ⟨r, t⟩ := k
    rw [beg_fam]
    show begI (fam r F) t ≤ upS S' r t
    have h2 := up_nonneg S' r t
    by_cases hp : 0 < begI (fam r F) t
    · have h3 := beg_le (h.nf.lam r) hp
      have h4 := h.cnt r t
      have h5 := h.cnt r (t - 1)
      have h6 := sum_up S' r t
      rw [he] at h4 h5
      unfold cntF at h4 h5
      omega
    · omega
  refine Int.le_trans (tot_le h1) ?_
  unfold upS absS
  rw [tot_swap]
  refine tot_le (fun s _ => ?_)
  have e2 : tot (fun k : List Val × Int => if s.row = k.1 ∧ (if 0 < s.n then s.lo else s.hi) = k.2 then (s.n.natAbs : Int) else 0) K = tot (fun k => if (s.row, (if 0 < s.n then s.lo else s.hi)) = k then (s.n.natAbs : Int) else 0) K := tot_congr (fun k _ => by
    obtain ⟨r, t⟩ := k
    simp only [Prod.mk.injEq])
  rw [e2, tot_hit _ _ hn]
  split <;> omega
end Go.Proofs.YtlapifncplbcnabGreat
