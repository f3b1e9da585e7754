/- Two texts with a blank between, plainly. -/
import Derived.Test.YtackfnojafinpaaDoorK
namespace Go.Proofs.YtackfnojafinpaaDoor
open Go.RowKit
set_option linter.unusedVariables false

theorem run_app {p : UInt8 → Bool} {c : UInt8} (hc : p c = false) (y : List UInt8) : ∀ l : List UInt8, runL p (l ++ c :: y) = runL p l
  | [] => runL_cons_no hc
  | b :: l => by
    cases h : p b with
    | true => rw [List.cons_append, runL_cons_yes h, runL_cons_yes h, run_app hc y l]
    | false => rw [List.cons_append, runL_cons_no h, runL_cons_no h]
theorem headLet_app {c : UInt8} (hc : letB c = false) (y : List UInt8) (l : List UInt8) : headLet (l ++ c :: y) = headLet l := by
  cases l with
  | nil => simp [headLet, hc]
  | cons b l => rfl
theorem take_run_app {p : UInt8 → Bool} {c : UInt8} (y l : List UInt8) : (l ++ c :: y).take (runL p l) = l.take (runL p l) := List.take_append_of_le_length (runL_le p l)
theorem drop_run_app {p : UInt8 → Bool} {c : UInt8} (y l : List UInt8) : (l ++ c :: y).drop (runL p l) = l.drop (runL p l) ++ c :: y := List.drop_append_of_le_length (runL_le p l)
/-- A byte that parts tokens. -/
structure Parts (c : UInt8) : Prop where
  gap : gapB c = true
  l : letB c = false
  d : digB c = false
  q : c ≠ 39
  s : ∀ p ∈ signs, c ∉ p
theorem parts32 : Parts 32 := ⟨by decide, by decide, by decide, by decide, by decide⟩
theorem parts9 : Parts 9 := ⟨by decide, by decide, by decide, by decide, by decide⟩
theorem parts10 : Parts 10 := ⟨by decide, by decide, by decide, by decide, by decide⟩
theorem word_app {c : UInt8} (hc : Parts c) (y l : List UInt8) : wordR (l ++ c :: y) = wordR l := by
  have hw : wordB c = false := by simp [wordB, hc.l, hc.d]
  unfold wordR
  rw [headLet_app hc.l, run_app hw, take_run_app]
theorem num_app {c : UInt8} (hc : Parts c) (y l : List UInt8) : numR (l ++ c :: y) = numR l := by
  unfold numR
  rw [run_app hc.d, take_run_app, drop_run_app, headLet_app hc.l]
theorem prefix_app {c : UInt8} (y : List UInt8) : ∀ (p l : List UInt8), c ∉ p → Lib.hasPrefix (l ++ c :: y) p = Lib.hasPrefix l p
  | [], l, _ => by simp [Lib.hasPrefix]
  | a :: p, [], h => by
    have hne : a ≠ c := fun e => h (by simp [e])
    simp [Lib.hasPrefix, List.isPrefixOf, hne]
  | a :: p, b :: l, h => by
    have ih := prefix_app (c := c) y p l (fun e => h (List.mem_cons_of_mem _ e))
    simp only [Lib.hasPrefix, List.cons_append, List.isPrefixOf] at ih ⊢
    rw [ih]
theorem sign_app {c : UInt8} (hc : Parts c) (y l : List UInt8) : signR (l ++ c :: y) = signR l := by
  unfold signR
  congr 1
  have : ∀ S : List (List UInt8), (∀ p ∈ S, c ∉ p) → S.find? (fun p => Lib.hasPrefix (l ++ c :: y) p) = S.find? (fun p => Lib.hasPrefix l p) := by
    intro S
    induction S with
    | nil => intro _; rfl
    | cons p S ih =>
      intro h
      simp only [List.find?_cons]
      rw [prefix_app y p l (h p (by simp)), ih (fun q hq => h q (by simp [hq]))]
  exact this signs hc.s
theorem quoteT_app {c : UInt8} (hc : c ≠ 39) (y : List UInt8) : ∀ (l : List UInt8) (x : List UInt8 × Nat), quoteT l = some x → quoteT (l ++ c :: y) = some x := by
  intro l
  induction l using quoteT.induct with
  | case1 => intro x h; simp [quoteT] at h
  | case2 => intro x h; simp [quoteT] at h; subst h; simp [quoteT, hc]
  | case3 b hb => intro x h; simp [quoteT, hb] at h
  | case4 r ih =>
    intro x h
    simp [quoteT] at h
    obtain ⟨a, k, h1, rfl⟩ := h
    simp only [List.cons_append]
    rw [quoteT_two, ih _ h1]
    rfl
  | case5 d r hd => intro x h; simp [quoteT, hd] at h; subst h; simp [quoteT, hd]
  | case6 b d r hb ih =>
    intro x h
    simp [quoteT, hb] at h
    obtain ⟨a, k, h1, rfl⟩ := h
    rw [List.cons_append, quoteT_free b _ hb, ih _ h1]
    rfl
theorem word_quote (r : List UInt8) : wordR (39 :: r) = none := by
  unfold wordR; rw [if_neg]; simp [headLet]; decide
theorem num_quote (r : List UInt8) : numR (39 :: r) = none := by
  unfold numR
  rw [if_pos (.inr (.inr (runL_cons_no (by decide))))]
theorem sign_quote (r : List UInt8) : signR (39 :: r) = none := by
  unfold signR
  rw [List.find?_eq_none.2 ?_]
  · rfl
  · intro p hp
    simp only [signs, List.mem_cons, List.not_mem_nil, or_false] at hp
    rcases hp with rfl | rfl | rfl | rfl | rfl | rfl | rfl | rfl | rfl | rfl | rfl | rfl | rfl | rfl <;> simp [Lib.hasPrefix, List.isPrefixOf]
theorem oneR_app {c : UInt8} (hc : Parts c) (y l : List UInt8) (x : Bit) (h : oneR l = some x) : oneR (l ++ c :: y) = some x := by
  cases l with
  | nil => have := oneR_len h; simp at this; omega
  | cons b r =>
    by_cases hb : b = 39
    · subst hb
      have e : ∀ r, oneR (39 :: r) = quoteR (39 :: r) := fun r => by simp [oneR, word_quote, num_quote, sign_quote]
      rw [List.cons_append, e]
      rw [e] at h
      simp only [quoteR, if_true] at h ⊢
      obtain ⟨t, ht, rfl⟩ := Option.map_eq_some_iff.1 h
      rw [quoteT_app hc.q y r t ht]
      rfl
    · have e : ∀ r, quoteR (b :: r) = none := fun r => by simp [quoteR, hb]
      have h2 := h
      unfold oneR at h2 ⊢
      rw [word_app hc, num_app hc, sign_app hc, List.cons_append, e]
      rw [e] at h2
      exact h2
/-- The tokens of the one, and then of the other. -/
theorem Lex.join {c : UInt8} (hc : Parts c) (y : List UInt8) {o : Nat} {l : List UInt8} {r : Res} (h : Lex o l r) : ∀ {X Y : List Tok}, r = .ok X → Lex (o + l.length + 1) y (.ok Y) → Lex o (l ++ c :: y) (.ok (X ++ Y)) := by
  induction h with
  | nil o =>
    intro X Y e hy
    injection e with e
    subst e
    exact .gap hc.gap (by simpa using hy)
  | @gap o b l r hg hl ih =>
    intro X Y e hy
    exact .gap hg (ih e (by rw [List.length_cons] at hy; rw [show o + 1 + l.length + 1 = o + (l.length + 1) + 1 by omega]; exact hy))
  | @tok o b l x r hg h1 h2 ih =>
    intro X Y e hy
    cases r with
    | bad p => simp [Res.cons] at e
    | ok ts =>
      simp only [Res.cons, Res.ok.injEq] at e
      subst e
      obtain ⟨l1, l2, _⟩ := oneR_len h1
      have ih2 := ih rfl (Y := Y) (by
        rw [List.length_drop]
        rw [show o + x.len + ((b :: l).length - x.len) + 1 = o + (b :: l).length + 1 by omega]
        exact hy)
      rw [← List.drop_append_of_le_length l2] at ih2
      exact Lex.take x hg (oneR_app hc y (b :: l) x h1) ih2
  | bad hg h1 => intro X Y e; cases e
def Tok.shift (d : Nat) (t : Tok) : Tok := ⟨t.kind, t.text, t.num, t.pos + d⟩
theorem Lex.shift (d : Nat) {o : Nat} {l : List UInt8} {r : Res} (h : Lex o l r) : ∀ {X : List Tok}, r = .ok X → Lex (o + d) l (.ok (X.map (Tok.shift d))) := by
  induction h with
  | nil o => intro X e; injection e with e; subst e; exact .nil _
  | @gap o b l r hg hl ih => intro X e; exact .gap hg (by rw [show o + d + 1 = o + 1 + d by omega]; exact ih e)
  | @tok o b l x r hg h1 h2 ih =>
    intro X e
    cases r with
    | bad p => simp [Res.cons] at e
    | ok ts =>
      simp only [Res.cons, Res.ok.injEq] at e
      subst e
      exact Lex.take x hg h1 (by rw [show o + d + x.len = o + x.len + d by omega]; exact ih rfl)
  | bad hg h1 => intro X e; cases e
theorem Lex.pos {o : Nat} {l : List UInt8} {r : Res} (h : Lex o l r) : ∀ {X : List Tok}, r = .ok X → ∀ t ∈ X, t.pos < o + l.length := by
  induction h with
  | nil o => intro X e; injection e with e; subst e; simp
  | @gap o b l r hg hl ih => intro X e t ht; have := ih e t ht; simp; omega
  | @tok o b l x r hg h1 h2 ih =>
    intro X e t ht
    cases r with
    | bad p => simp [Res.cons] at e
    | ok ts =>
      simp only [Res.cons, Res.ok.injEq] at e
      subst e
      obtain ⟨l1, l2, _⟩ := oneR_len h1
      rcases List.mem_cons.1 ht with rfl | ht
      · simp [Bit.tok]
      · have := ih rfl t ht
        rw [List.length_drop] at this
        omega
  | bad hg h1 => intro X e; cases e
/-- Two texts with a blank between have the tokens of the one and then of the other. -/
theorem lex_joins {c : UInt8} (hc : Parts c) (a b : List UInt8) (X Y : List Tok) (ha : Lex 0 a (.ok X)) (hb : Lex 0 b (.ok Y)) : Lex 0 (a ++ c :: b) (.ok (X ++ Y.map (Tok.shift (a.length + 1)))) :=
  ha.join hc b rfl (by have := hb.shift (a.length + 1) rfl; simpa using this)
end Go.Proofs.YtackfnojafinpaaDoor
