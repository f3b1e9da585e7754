/- Tokens of a text, plainly. -/
import Derived.Lib.Case
import Derived.Lib.ParseIntB
namespace Go.Proofs.YtackfnojafinpaaDoor
open Go
set_option linter.unusedVariables false

def gapB (b : UInt8) : Bool := b == 32 || b == 9 || b == 10
def letB (b : UInt8) : Bool := (97 ≤ b && b ≤ 122) || (65 ≤ b && b ≤ 90) || b == 95
def digB (b : UInt8) : Bool := 48 ≤ b && b ≤ 57
def wordB (b : UInt8) : Bool := letB b || digB b
def freeB (b : UInt8) : Bool := b != 39
/-- A token. -/
structure Tok where
  kind : Int
  text : List UInt8
  num : Int
  pos : Nat
/-- What a reader finds: a token without its place, and how many bytes it has. -/
structure Bit where
  kind : Int
  text : List UInt8
  num : Int
  len : Nat
def Bit.tok (x : Bit) (o : Nat) : Tok := ⟨x.kind, x.text, x.num, o⟩
/-- How many bytes at the beginning are passed. -/
def runL (p : UInt8 → Bool) (l : List UInt8) : Nat := (l.takeWhile p).length
theorem runL_le (p : UInt8 → Bool) (l : List UInt8) : runL p l ≤ l.length := (List.takeWhile_sublist p).length_le
theorem runL_cons_yes {p : UInt8 → Bool} {b : UInt8} {l : List UInt8} (h : p b = true) : runL p (b :: l) = runL p l + 1 := by simp [runL, h]
theorem runL_cons_no {p : UInt8 → Bool} {b : UInt8} {l : List UInt8} (h : p b = false) : runL p (b :: l) = 0 := by simp [runL, h]
theorem takeWhile_run (p : UInt8 → Bool) (l : List UInt8) : l.takeWhile p = l.take (runL p l) := by
  induction l with
  | nil => rfl
  | cons b l ih =>
    cases h : p b with
    | true => rw [runL_cons_yes h, List.takeWhile_cons, if_pos h, List.take_succ_cons, ih]
    | false => rw [runL_cons_no h, List.takeWhile_cons, h]; rfl
/-- Behind what is passed: the end, or a byte that isn't. -/
theorem run_stop (p : UInt8 → Bool) (l : List UInt8) : l.drop (runL p l) = [] ∨ ∃ b r, l.drop (runL p l) = b :: r ∧ p b = false := by
  induction l with
  | nil => exact .inl rfl
  | cons b l ih =>
    cases h : p b with
    | true => rw [runL_cons_yes h, List.drop_succ_cons]; exact ih
    | false => rw [runL_cons_no h]; exact .inr ⟨b, l, rfl, h⟩
theorem run_all (p : UInt8 → Bool) (l : List UInt8) : ∀ b ∈ l.take (runL p l), p b = true := by
  intro b hb
  rw [← takeWhile_run] at hb
  exact List.all_eq_true.1 List.all_takeWhile b hb
theorem run_of_prefix (p : UInt8 → Bool) : ∀ (l : List UInt8) (k : Nat), k ≤ l.length → (∀ b ∈ l.take k, p b = true) → (∀ b, l[k]? = some b → p b = false) → runL p l = k
  | [], k, hk, _, _ => by simp at hk; subst hk; rfl
  | b :: l, 0, _, _, h => runL_cons_no (h b rfl)
  | b :: l, k + 1, hk, ha, h => by
    rw [runL_cons_yes (ha b (by simp)), run_of_prefix p l k (by simpa using hk) (fun x hx => ha x (by simp [hx])) (fun x hx => h x (by simpa using hx))]
/-- The number of some digits. -/
def decV (l : List UInt8) : Nat := l.foldl (fun n b => n * 10 + (b.toNat - 48)) 0
def headLet (l : List UInt8) : Bool := match l with
  | [] => false
  | b :: _ => letB b
def wordR (l : List UInt8) : Option Bit := if headLet l = true then some ⟨1, Lib.toUpperA (l.take (runL wordB l)), 0, runL wordB l⟩ else none
def numR (l : List UInt8) : Option Bit := if 18 < runL digB l ∨ headLet (l.drop (runL digB l)) = true ∨ runL digB l = 0 then none else some ⟨2, [], decV (l.take (runL digB l)), runL digB l⟩
/-- What stands within quotes, behind the first one; and how many bytes, with the last quote. -/
def quoteT : List UInt8 → Option (List UInt8 × Nat)
  | [] => none
  | [b] => if b = 39 then some ([], 1) else none
  | b :: c :: r => if b = 39 then (if c = 39 then (quoteT r).map (fun x => (39 :: x.1, x.2 + 2)) else some ([], 1)) else (quoteT (c :: r)).map (fun x => (b :: x.1, x.2 + 1))
def quoteR : List UInt8 → Option Bit
  | [] => none
  | b :: r => if b = 39 then (quoteT r).map (fun x => ⟨3, x.1, 0, x.2 + 1⟩) else none
def signs : List (List UInt8) := [[60, 62], [60, 61], [62, 61], [40], [41], [44], [59], [46], [61], [60], [62], [43], [45], [42]]
def signR (l : List UInt8) : Option Bit := (signs.find? (fun p => Lib.hasPrefix l p)).map (fun p => ⟨4, p, 0, p.length⟩)
def oneR (l : List UInt8) : Option Bit := (wordR l).or ((numR l).or ((quoteR l).or (signR l)))
/-- What a text comes to: its tokens, or the place of the first piece that is none. -/
inductive Res where
  | ok (ts : List Tok)
  | bad (p : Nat)
def Res.cons (t : Tok) : Res → Res
  | .ok ts => .ok (t :: ts)
  | .bad p => .bad p
def Res.pre (T : List Tok) : Res → Res
  | .ok ts => .ok (T ++ ts)
  | .bad p => .bad p
theorem Res.pre_nil (r : Res) : r.pre [] = r := by cases r <;> rfl
theorem Res.pre_cons (T : List Tok) (t : Tok) (r : Res) : (r.cons t).pre T = r.pre (T ++ [t]) := by cases r <;> simp [Res.cons, Res.pre]
inductive Lex : Nat → List UInt8 → Res → Prop
  | nil (o : Nat) : Lex o [] (.ok [])
  | gap {o : Nat} {b : UInt8} {l : List UInt8} {r : Res} : gapB b = true → Lex (o + 1) l r → Lex o (b :: l) r
  | tok {o : Nat} {b : UInt8} {l : List UInt8} {x : Bit} {r : Res} : gapB b = false → oneR (b :: l) = some x → Lex (o + x.len) ((b :: l).drop x.len) r → Lex o (b :: l) (r.cons (x.tok o))
  | bad {o : Nat} {b : UInt8} {l : List UInt8} : gapB b = false → oneR (b :: l) = none → Lex o (b :: l) (.bad o)
theorem Lex.unique {o : Nat} {l : List UInt8} {r s : Res} (h : Lex o l r) (k : Lex o l s) : r = s := by
  induction h generalizing s with
  | nil => cases k; rfl
  | gap hg _ ih =>
    cases k with
    | gap _ k2 => exact ih k2
    | tok hg2 _ _ => rw [hg] at hg2; cases hg2
    | bad hg2 _ => rw [hg] at hg2; cases hg2
  | tok hg h1 _ ih =>
    cases k with
    | gap hg2 _ => rw [hg] at hg2; cases hg2
    | tok _ h2 k2 =>
      rw [h1] at h2
      obtain rfl := Option.some.inj h2
      rw [ih k2]
    | bad _ h2 => rw [h1] at h2; cases h2
  | bad hg h1 =>
    cases k with
    | gap hg2 _ => rw [hg] at hg2; cases hg2
    | tok _ h2 _ => rw [h1] at h2; cases h2
    | bad _ _ => rfl
theorem Lex.gaps {l : List UInt8} : ∀ {o : Nat} {r : Res}, Lex (o + runL gapB l) (l.drop (runL gapB l)) r → Lex o l r := by
  induction l with
  | nil => intro o r h; exact h
  | cons b l ih =>
    intro o r h
    cases hb : gapB b with
    | true =>
      rw [runL_cons_yes hb, List.drop_succ_cons] at h
      exact .gap hb (ih (by rw [Nat.add_assoc, Nat.add_comm 1]; exact h))
    | false =>
      rw [runL_cons_no hb] at h
      exact h
/-- A token has a byte at least. -/
theorem quoteT_len : ∀ (l : List UInt8) (x : List UInt8 × Nat), quoteT l = some x → 0 < x.2 ∧ x.2 ≤ l.length ∧ x.1.length ≤ l.length := by
  intro l
  induction l using quoteT.induct with
  | case1 => intro x h; simp [quoteT] at h
  | case2 => intro x h; simp [quoteT] at h; subst h; simp
  | case3 b hb => intro x h; simp [quoteT, hb] at h
  | case4 r ih => 
    intro x h
    simp [quoteT] at h
    obtain ⟨a, k, h1, rfl⟩ := h
    have := ih _ h1
    simp at this ⊢
    omega
  | case5 c r hc => intro x h; simp [quoteT, hc] at h; subst h; simp
  | case6 b c r hb ih =>
    intro x h
    simp [quoteT, hb] at h
    obtain ⟨a, k, h1, rfl⟩ := h
    have := ih _ h1
    simp at this ⊢
    omega
theorem oneR_len {l : List UInt8} {x : Bit} (h : oneR l = some x) : 0 < x.len ∧ x.len ≤ l.length ∧ x.text.length ≤ l.length := by
  unfold oneR at h
  rw [Option.or_eq_some_iff] at h
  rcases h with h | ⟨-, h⟩
  · unfold wordR at h
    split at h
    · next hl =>
      cases l with
      | nil => simp [headLet] at hl
      | cons b r =>
        have hb : wordB b = true := by simp [headLet] at hl; simp [wordB, hl]
        obtain rfl := Option.some.inj h
        have hr := runL_le wordB (b :: r)
        refine ⟨by show 0 < runL wordB (b :: r); rw [runL_cons_yes hb]; omega, hr, ?_⟩
        simp [Lib.toUpperA]; omega
    · cases h
  · rw [Option.or_eq_some_iff] at h
    rcases h with h | ⟨-, h⟩
    · unfold numR at h
      split at h
      · cases h
      · next hn =>
        obtain rfl := Option.some.inj h
        have hr := runL_le digB l
        exact ⟨by simp only; omega, hr, by simp⟩
    · rw [Option.or_eq_some_iff] at h
      rcases h with h | ⟨-, h⟩
      · cases l with
        | nil => simp [quoteR] at h
        | cons b r =>
          simp only [quoteR] at h
          split at h
          · obtain ⟨y, hy, rfl⟩ := Option.map_eq_some_iff.1 h
            have := quoteT_len r y hy
            simp; omega
          · cases h
      · unfold signR at h
        obtain ⟨p, hp, rfl⟩ := Option.map_eq_some_iff.1 h
        have h1 := List.find?_some hp
        have h2 := List.mem_of_find?_eq_some hp
        have h3 : p.length ≤ l.length := (List.IsPrefix.length_le (List.isPrefixOf_iff_prefix.1 h1))
        have h4 : 0 < p.length := by
          simp [signs] at h2
          rcases h2 with rfl | rfl | rfl | rfl | rfl | rfl | rfl | rfl | rfl | rfl | rfl | rfl | rfl | rfl <;> simp
        exact ⟨h4, h3, h3⟩
end Go.Proofs.YtackfnojafinpaaDoor
