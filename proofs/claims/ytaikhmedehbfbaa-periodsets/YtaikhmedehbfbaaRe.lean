/- The document's some; the least later end, plainly. -/
import Derived.Test.YtaikhmedehbfbaaKc
import Derived.Test.YtaikhmedehbfbaaIw
namespace Go.Proofs.Ytaikhmedehbfbaa
open Go.RowKit
set_option linter.unusedVariables false

set_option maxRecDepth 100000 in
set_option maxHeartbeats 1000000 in
theorem some_any (a : Option Addr) (c : Nat) (L : List Per) (t : Int) (w : World) (hv : Pers w a L) (hL : L.length ≤ 140737488351232) :
    Calls Try.prog 36 #[.slice a L.length c, .int .i64 t] w fun e w' => e = .returned (.bool (inB L t)) ∧ Fr w w' (fun _ => False) := by
  have HV := hide hv
  clear hv
  go_enter Try.func36, Try.ntmps36
  go_wp2_with fail
  go_loopw [5] (fun i wr => ∃ k : Nat, k ≤ L.length ∧ i = .int .i64 k ∧ inB (L.take k) t = false ∧ Fr w wr (fun _ => False)) (fun i _ => L.length - (intOf i).toNat)
  case atStart => exact ⟨0, by omega, rfl, by simp [inB], Fr.refl _ _⟩
  case round =>
    rename World => W
    obtain ⟨k, hk, rfl, hno, hf⟩ := hrel
    have HF := hide hf
    have HNO := hide hno
    clear hf hno
    by_cases hlt : k < L.length
    · obtain ⟨q, hq⟩ : ∃ q, L[k]? = some q := ⟨_, List.getElem?_eq_getElem hlt⟩
      obtain ⟨g, off, rfl, d0, d1⟩ := HV.out.get HF.out k q hq
      have hrt := right_any q
      have hhs := rhas_any q t
      have HM := hide (inB_snoc L k q t hq)
      have HQ := hide hq
      unfold perV at hrt hhs
      clear hq
      go_wp2_with fail
      refine (hrt W).mono ?_
      rintro e W1 ⟨rfl, f1⟩
      have HF1 := hide ((HF.out.trans f1).mono (Y := fun _ => False) (by simp))
      clear f1 hrt d0 d1
      by_cases hr : rightB q = true
      · rw [hr]
        obtain ⟨g', off', he, d0, d1⟩ := HV.out.get HF1.out k q HQ.out
        simp only [Option.some.injEq, Addr.mk.injEq, and_true] at he
        obtain ⟨rfl, rfl⟩ := he
        go_wp2_with fail
        refine (hhs W1).mono ?_
        rintro e W2 ⟨rfl, f2⟩
        have HF2 := hide ((HF1.out.trans f2).mono (Y := fun _ => False) (by simp))
        clear f2 hhs d0 d1
        by_cases hh : hasB q t = true
        · rw [hh]
          have hin : inB L t = true := by
            rw [inB_iff]
            exact ⟨q, List.mem_of_getElem? HQ.out, (rightB_iff q).1 hr, (hasB_iff q t).1 hh⟩
          go_wp2
          go_ret
          exact ⟨by rw [hin]; rfl, HF2.out⟩
        · have hh' : hasB q t = false := by simpa using hh
          rw [hh']
          have hmm : inB (L.take (k + 1)) t = false := by rw [HM.out, HNO.out, hh']; simp
          go_wp2
          go_roundw
          case rel => exact ⟨k + 1, by omega, by go_num, hmm, HF2.out⟩
          case measure => simp [intOf]; omega
      · have hr' : rightB q = false := by simpa using hr
        rw [hr']
        have hmm : inB (L.take (k + 1)) t = false := by rw [HM.out, HNO.out, hr']; simp
        go_wp2
        go_roundw
        case rel => exact ⟨k + 1, by omega, by go_num, hmm, HF1.out⟩
        case measure => simp [intOf]; omega
    · obtain rfl : k = L.length := by omega
      have hno := HNO.out
      rw [List.take_length] at hno
      go_wp2
      go_ret
      exact ⟨by rw [hno]; rfl, HF.out⟩

/-- Behind the last one. -/
def laterB (E : List Int) (t : Int) : Bool := match E.getLast? with | none => true | some l => decide (l < t)
def nxt (E : List Int) (n t : Int) : Int := if laterB E t = true ∧ (n < 0 ∨ t < n) then t else n
def leastOf (E l : List Int) : Int := l.foldl (nxt E) (-1)
theorem leastOf_snoc (E l : List Int) (t : Int) : leastOf E (l ++ [t]) = nxt E (leastOf E l) t := by simp [leastOf]
theorem least_spec0 (E : List Int) : ∀ (n : Nat) (l : List Int), l.length = n → (∀ t ∈ l, 0 ≤ t) → (leastOf E l = -1 ∧ ∀ t ∈ l, laterB E t = false) ∨ (0 ≤ leastOf E l ∧ leastOf E l ∈ l ∧ laterB E (leastOf E l) = true ∧ ∀ t ∈ l, laterB E t = true → leastOf E l ≤ t) := by
  intro n
  induction n with
  | zero =>
    intro l hl _
    have : l = [] := List.eq_nil_of_length_eq_zero hl
    subst this
    left; simp [leastOf]
  | succ n ih0 =>
    intro l' hl' h0
    rcases List.eq_nil_or_concat l' with rfl | ⟨l, x, rfl⟩
    · simp at hl'
    rw [List.concat_eq_append] at *
    have ih := ih0 l (by simpa using hl')
    have hx : 0 ≤ x := h0 x (by simp)
    rw [leastOf_snoc]
    unfold nxt
    rcases ih (fun t ht => h0 t (by simp [ht])) with ⟨h1, h2⟩ | ⟨h1, h2, h3, h4⟩
    · by_cases hl : laterB E x = true
      · rw [if_pos ⟨hl, .inl (by omega)⟩]
        right
        refine ⟨hx, by simp, hl, fun t ht hlt => ?_⟩
        rcases List.mem_append.1 ht with ht | ht
        · rw [h2 t ht] at hlt; cases hlt
        · simp at ht; omega
      · rw [if_neg (fun h => hl h.1)]
        left
        refine ⟨h1, fun t ht => ?_⟩
        rcases List.mem_append.1 ht with ht | ht
        · exact h2 t ht
        · simp at ht; subst ht; simpa using hl
    · right
      by_cases hl : laterB E x = true ∧ (leastOf E l < 0 ∨ x < leastOf E l)
      · rw [if_pos hl]
        refine ⟨hx, by simp, hl.1, fun t ht hlt => ?_⟩
        rcases List.mem_append.1 ht with ht | ht
        · have := h4 t ht hlt; have := hl.2; omega
        · simp at ht; omega
      · rw [if_neg hl]
        refine ⟨h1, by simp [h2], h3, fun t ht hlt => ?_⟩
        rcases List.mem_append.1 ht with ht | ht
        · exact h4 t ht hlt
        · simp at ht
          subst ht
          by_cases hlt2 : t < leastOf E l
          · exact absurd ⟨hlt, .inr hlt2⟩ hl
          · omega
theorem least_spec (E l : List Int) (h : ∀ t ∈ l, 0 ≤ t) : (leastOf E l = -1 ∧ ∀ t ∈ l, laterB E t = false) ∨ (0 ≤ leastOf E l ∧ leastOf E l ∈ l ∧ laterB E (leastOf E l) = true ∧ ∀ t ∈ l, laterB E t = true → leastOf E l ≤ t) := least_spec0 E l.length l rfl h
theorem filter_lt {α : Type} (p q : α → Bool) : ∀ (l : List α), (∀ x ∈ l, q x = true → p x = true) → (∃ y ∈ l, p y = true ∧ q y = false) → (l.filter q).length < (l.filter p).length
  | [], _, h => by obtain ⟨y, hy, _⟩ := h; cases hy
  | a :: r, h, hy => by
    have hle : ∀ (s : List α), (∀ x ∈ s, q x = true → p x = true) → (s.filter q).length ≤ (s.filter p).length := by
      intro s
      induction s with
      | nil => simp
      | cons b s ih =>
        intro hs
        have h1 := ih (fun x hx => hs x (by simp [hx]))
        have h2 := hs b (by simp)
        rw [List.filter_cons, List.filter_cons]
        by_cases hq : q b = true
        · rw [if_pos hq, if_pos (h2 hq)]; simp; exact h1
        · rw [if_neg hq]; split <;> simp <;> omega
    have h2 := h a (by simp)
    have h3 := hle r (fun x hx => h x (by simp [hx]))
    rw [List.filter_cons, List.filter_cons]
    by_cases hq : q a = true
    · rw [if_pos hq, if_pos (h2 hq)]
      obtain ⟨y, hy1, hy2, hy3⟩ := hy
      rcases List.mem_cons.1 hy1 with rfl | hy1
      · rw [hq] at hy3; cases hy3
      · have := filter_lt p q r (fun x hx => h x (by simp [hx])) ⟨y, hy1, hy2, hy3⟩
        simp; exact this
    · rw [if_neg hq]
      by_cases hp : p a = true
      · rw [if_pos hp]; simp; omega
      · rw [if_neg hp]
        obtain ⟨y, hy1, hy2, hy3⟩ := hy
        rcases List.mem_cons.1 hy1 with rfl | hy1
        · exact absurd hy2 hp
        · exact filter_lt p q r (fun x hx => h x (by simp [hx])) ⟨y, hy1, hy2, hy3⟩
theorem laterB_snoc (E : List Int) (n t : Int) : laterB (E ++ [n]) t = decide (n < t) := by simp [laterB]
/-- The first ends, rising. -/
structure Begun (l E : List Int) : Prop where
  rising : Rising E
  mem : ∀ t ∈ E, t ∈ l
  all : ∀ t ∈ l, laterB E t = false → t ∈ E
  len : E.length + (l.filter (laterB E)).length ≤ l.length
theorem Begun.start (l : List Int) : Begun l [] := ⟨trivial, by simp, fun t _ h => by simp [laterB] at h, by simp; exact List.length_filter_le _ _⟩
theorem rising_snoc : ∀ {E : List Int} {n : Int}, Rising E → (∀ x, E.getLast? = some x → x < n) → Rising (E ++ [n])
  | [], _, _, _ => trivial
  | [a], n, _, h => ⟨h a rfl, trivial⟩
  | a :: b :: r, n, hr, h => ⟨hr.1, rising_snoc (E := b :: r) hr.2 (fun x hx => h x (by simpa using hx))⟩
theorem Begun.step {l E : List Int} (h : Begun l E) (h0 : ∀ t ∈ l, 0 ≤ t) (hn : 0 ≤ leastOf E l) : Begun l (E ++ [leastOf E l]) := by
  rcases least_spec E l h0 with ⟨h1, _⟩ | ⟨_, h2, h3, h4⟩
  · omega
  · refine ⟨rising_snoc h.rising (fun x hx => ?_), fun t ht => ?_, fun t ht hl => ?_, ?_⟩
    · unfold laterB at h3; rw [hx] at h3; simpa using h3
    · rcases List.mem_append.1 ht with ht | ht
      · exact h.mem t ht
      · simp at ht; rw [ht]; exact h2
    · rw [laterB_snoc] at hl
      have hle : ¬ leastOf E l < t := by simpa using hl
      by_cases hlt : laterB E t = true
      · have := h4 t ht hlt
        have : t = leastOf E l := by omega
        simp [this]
      · have := h.all t ht (by simpa using hlt)
        simp [this]
    · have h5 : (l.filter (laterB (E ++ [leastOf E l]))).length < (l.filter (laterB E)).length := by
        refine filter_lt _ _ l (fun x hx hq => ?_) ⟨leastOf E l, h2, h3, by rw [laterB_snoc]; simp⟩
        rw [laterB_snoc] at hq
        have hq' : leastOf E l < x := by simpa using hq
        unfold laterB at h3 ⊢
        cases hg : E.getLast? with
        | none => rfl
        | some y => rw [hg] at h3; simp at h3 ⊢; omega
      have h6 := h.len
      simp only [List.length_append, List.length_singleton]
      omega
theorem Begun.fin {L : List Per} {E : List Int} (h : Begun (ends (L.filter rightB)) E) (hn : leastOf E (ends (L.filter rightB)) < 0) (h0 : ∀ t ∈ ends (L.filter rightB), 0 ≤ t) : IsEdges L E := by
  have hall : ∀ t ∈ ends (L.filter rightB), t ∈ E := by
    rcases least_spec E _ h0 with ⟨_, h2⟩ | ⟨h1, _⟩
    · exact fun t ht => h.all t ht (h2 t ht)
    · omega
  refine ⟨h.rising, fun t => ?_⟩
  constructor
  · intro ht
    obtain ⟨p, hp, h3⟩ := (mem_ends _ _).1 (h.mem t ht)
    exact ⟨p, (List.mem_filter.1 hp).1, (rightB_iff p).1 (List.mem_filter.1 hp).2, h3⟩
  · rintro ⟨p, hp, h3, h4⟩
    exact hall t ((mem_ends _ _).2 ⟨p, List.mem_filter.2 ⟨hp, (rightB_iff p).2 h3⟩, h4⟩)
theorem ends_nonneg (L : List Per) : ∀ t ∈ ends (L.filter rightB), 0 ≤ t := by
  intro t ht
  obtain ⟨p, hp, h⟩ := (mem_ends _ _).1 ht
  have := (rightB_iff p).1 (List.mem_filter.1 hp).2
  unfold Right at this
  omega
end Go.Proofs.Ytaikhmedehbfbaa
