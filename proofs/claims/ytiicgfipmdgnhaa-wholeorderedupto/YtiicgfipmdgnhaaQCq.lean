/- Values stand in the order of their bytes: plainly. -/
import Derived.Test.YtiicgfipmdgnhaaQCc
namespace Go.Proofs.Ytiicgfipmdgnhaa

theorem numB_cons (x m : Nat) : numB x (m + 1) = UInt8.ofNat (x / 256 ^ m) :: numB x m := by
  induction m generalizing x with
  | zero => simp [numB]
  | succ m ih =>
    rw [numB, ih, numB, Nat.div_div_eq_div_mul, Nat.pow_succ, Nat.mul_comm 256]
    rfl
theorem less_numB (n m k : Nat) : Op.bytesLess (numB n k) (numB m k) = decide (n % 256 ^ k < m % 256 ^ k) := by
  induction k with
  | zero => simp [numB, Op.bytesLess, Nat.mod_one]
  | succ k ih =>
    rw [numB_cons, numB_cons, Op.bytesLess, ih, Nat.pow_succ, Nat.mod_mul, Nat.mod_mul]
    have hp : 0 < 256 ^ k := Nat.pow_pos (by omega)
    have h1 : n % 256 ^ k < 256 ^ k := Nat.mod_lt _ hp
    have h2 : m % 256 ^ k < 256 ^ k := Nat.mod_lt _ hp
    have e1 : (UInt8.ofNat (n / 256 ^ k) < UInt8.ofNat (m / 256 ^ k)) ↔ n / 256 ^ k % 256 < m / 256 ^ k % 256 := by
      rw [UInt8.lt_iff_toNat_lt]; simp
    have e2 : (UInt8.ofNat (n / 256 ^ k) = UInt8.ofNat (m / 256 ^ k)) ↔ n / 256 ^ k % 256 = m / 256 ^ k % 256 := by
      rw [← UInt8.toNat_inj]; simp
    generalize n / 256 ^ k % 256 = p at *
    generalize m / 256 ^ k % 256 = q at *
    generalize n % 256 ^ k = r at *
    generalize m % 256 ^ k = t at *
    generalize 256 ^ k = B at *
    rw [Bool.eq_iff_iff]
    simp only [Bool.or_eq_true, decide_eq_true_eq, Bool.and_eq_true, beq_iff_eq, e1, e2]
    constructor
    · rintro (h | ⟨h, h3⟩)
      · have : B * p + B ≤ B * q := by rw [← Nat.mul_succ]; exact Nat.mul_le_mul_left _ h
        omega
      · subst h; omega
    · intro h
      rcases Nat.lt_trichotomy p q with h3 | h3 | h3
      · exact .inl h3
      · subst h3; exact .inr ⟨rfl, by omega⟩
      · have : B * q + B ≤ B * p := by rw [← Nat.mul_succ]; exact Nat.mul_le_mul_left _ h3
        omega
theorem less_eight (n m : Nat) (hn : n < 18446744073709551616) (hm : m < 18446744073709551616) : Op.bytesLess (numB n 8) (numB m 8) = decide (n < m) := by
  rw [less_numB, Nat.mod_eq_of_lt (by omega), Nat.mod_eq_of_lt (by omega)]

/-- First one, then another. -/
def lex {α : Type} (c d : α → α → Int) (x y : α) : Int := if c x y = 0 then d x y else c x y
theorem Good.lex {α : Type} {c d : α → α → Int} (hc : Good c) (hd : Good d) : Good (lex c d) := by
  refine ⟨fun x y => ?_, fun x y => ?_, fun x y z h1 h2 => ?_⟩
  · unfold Go.Proofs.Ytiicgfipmdgnhaa.lex
    split
    · exact hd.range x y
    · exact hc.range x y
  · unfold Go.Proofs.Ytiicgfipmdgnhaa.lex
    have h1 := hc.neg x y
    have h2 := hd.neg x y
    by_cases h : c x y = 0
    · rw [if_pos h, if_pos (by omega)]; exact h2
    · rw [if_neg h, if_neg (by omega)]; exact h1
  · unfold Go.Proofs.Ytiicgfipmdgnhaa.lex at h1 h2 ⊢
    by_cases a1 : c x y = 0
    · rw [if_pos a1] at h1
      by_cases a2 : c y z = 0
      · rw [if_pos a2] at h2
        rw [if_pos (hc.zero x y z a1 a2)]
        exact hd.trans x y z h1 h2
      · rw [if_neg a2] at h2
        have := hc.strict2 x y z (by omega) (by omega)
        rw [if_neg (by omega)]; omega
    · rw [if_neg a1] at h1
      have h3 : c y z ≤ 0 := by
        by_cases a2 : c y z = 0
        · omega
        · rw [if_neg a2] at h2; exact h2
      have := hc.strict1 x y z (by omega) h3
      rw [if_neg (by omega)]; omega
theorem good_text : Good (fun x y : Val => Lib.compareBytes x.text y.text) :=
  ⟨fun _ _ => good_bytes.range _ _, fun _ _ => good_bytes.neg _ _, fun _ _ _ => good_bytes.trans _ _ _⟩
theorem cmpV_lex (a b : Val) : cmpV a b = lex (fun x y => cmpI x.kind y.kind) (lex (fun x y => cmpI x.num y.num) (fun x y => Lib.compareBytes x.text y.text)) a b := by
  rw [← cmpV_first]
  simp only [firstOf, lex]
  split
  · split
    · split
      · rename_i h; rw [h]
      · rfl
    · rfl
  · rfl
theorem good_val : Good cmpV := by
  have h := (good_int (fun x : Val => x.kind)).lex ((good_int (fun x : Val => x.num)).lex good_text)
  have e : cmpV = lex (fun x y => cmpI x.kind y.kind) (lex (fun x y => cmpI x.num y.num) (fun x y => Lib.compareBytes x.text y.text)) := by
    funext a b; exact cmpV_lex a b
  rw [e]; exact h
theorem cmpL_list (a b : List Val) : cmpL a b = cmpList cmpV a b := by
  induction a generalizing b with
  | nil => cases b <;> rfl
  | cons x a ih =>
    cases b with
    | nil => rfl
    | cons y b => simp only [cmpL, cmpList, ih]
theorem good_vals : Good cmpL := by
  have h := good_val.list
  have e : cmpL = cmpList cmpV := by funext a b; exact cmpL_list a b
  rw [e]; exact h

theorem compare_append (p q r s : List UInt8) (h : p.length = q.length) : Lib.compareBytes (p ++ r) (q ++ s) = if Lib.compareBytes p q = 0 then Lib.compareBytes r s else Lib.compareBytes p q := by
  induction p generalizing q with
  | nil =>
    cases q with
    | nil => simp [Lib.compareBytes]
    | cons y q => simp at h
  | cons x p ih =>
    cases q with
    | nil => simp at h
    | cons y q =>
      simp only [List.cons_append, Lib.compareBytes]
      split
      · simp
      · split
        · simp
        · exact ih q (by simpa using h)
theorem compare_nums (n m : Nat) (hn : n < 18446744073709551616) (hm : m < 18446744073709551616) : Lib.compareBytes (numB n 8) (numB m 8) = cmpI (n : Int) (m : Int) := by
  rw [compareBytes_less, less_eight n m hn hm]
  by_cases h1 : n < m
  · have e : cmpI (n : Int) (m : Int) = -1 := by unfold cmpI; rw [if_pos (by omega)]
    rw [e, if_pos (by simp [h1])]
  · rw [if_neg (by simp [h1])]
    by_cases h2 : n = m
    · subst h2
      have e : cmpI (n : Int) (n : Int) = 0 := by unfold cmpI; rw [if_neg (by omega), if_neg (by omega)]
      rw [e, if_pos rfl]
    · have e : cmpI (n : Int) (m : Int) = 1 := by unfold cmpI; rw [if_neg (by omega), if_pos (by omega)]
      rw [e, if_neg]
      intro h
      have := congrArg getB h
      rw [getB_numB _ _ (by omega), getB_numB _ _ (by omega), Nat.mod_eq_of_lt (by omega), Nat.mod_eq_of_lt (by omega)] at this
      exact h2 this
theorem compare_esc (t t' r s : List UInt8) : Lib.compareBytes (esc t ++ 0 :: 0 :: r) (esc t' ++ 0 :: 0 :: s) = if Lib.compareBytes t t' = 0 then Lib.compareBytes r s else Lib.compareBytes t t' := by
  induction t generalizing t' with
  | nil =>
    cases t' with
    | nil => simp [esc, Lib.compareBytes]
    | cons c t' =>
      simp only [esc, Lib.compareBytes]
      split
      · simp [Lib.compareBytes]
      · rename_i hc
        have h1 : (0 : UInt8) < c := by
          rw [UInt8.lt_iff_toNat_lt]
          have : c.toNat ≠ 0 := fun h => hc (UInt8.toNat_inj.1 (by simpa using h))
          simp; omega
        simp [Lib.compareBytes, h1]
  | cons b t ih =>
    cases t' with
    | nil =>
      simp only [esc, Lib.compareBytes]
      split
      · rename_i hb; subst hb; simp [Lib.compareBytes]
      · rename_i hb
        have h1 : (0 : UInt8) < b := by
          rw [UInt8.lt_iff_toNat_lt]
          have : b.toNat ≠ 0 := fun h => hb (UInt8.toNat_inj.1 (by simpa using h))
          simp; omega
        have h2 : ¬ b < 0 := by rw [UInt8.lt_iff_toNat_lt]; simp
        simp [Lib.compareBytes, h1, h2]
    | cons c t' =>
      simp only [esc, Lib.compareBytes]
      by_cases hb : b = 0
      · subst hb
        by_cases hc : c = 0
        · subst hc
          simp only [if_true, List.cons_append, Lib.compareBytes, UInt8.lt_irrefl, if_false]
          exact ih t'
        · have h1 : (0 : UInt8) < c := by
            rw [UInt8.lt_iff_toNat_lt]
            have : c.toNat ≠ 0 := fun h => hc (UInt8.toNat_inj.1 (by simpa using h))
            simp; omega
          simp [hc, Lib.compareBytes, h1]
      · by_cases hc : c = 0
        · subst hc
          have h1 : (0 : UInt8) < b := by
            rw [UInt8.lt_iff_toNat_lt]
            have : b.toNat ≠ 0 := fun h => hb (UInt8.toNat_inj.1 (by simpa using h))
            simp; omega
          have h2 : ¬ b < 0 := by rw [UInt8.lt_iff_toNat_lt]; simp
          simp [hb, Lib.compareBytes, h1, h2]
        · simp only [hb, hc, if_false, List.cons_append, Lib.compareBytes]
          split
          · simp
          · split
            · simp
            · exact ih t'
theorem check_kind (v : Val) (h : checkV v = 0) : (v.kind = 1 ∧ v.text = []) ∨ (v.kind = 2 ∧ v.num = 0) := by
  simp only [checkV] at h
  split at h
  · rename_i h1; exact .inl h1
  · split at h
    · rename_i h1; exact .inr h1
    · cases h
theorem compare_enc (u v : Val) (r s : List UInt8) (hu : checkV u = 0) (hv : checkV v = 0) (hwu : -9223372036854775808 ≤ u.num ∧ u.num < 9223372036854775808) (hwv : -9223372036854775808 ≤ v.num ∧ v.num < 9223372036854775808) :
    Lib.compareBytes (encV u ++ r) (encV v ++ s) = if cmpV u v = 0 then Lib.compareBytes r s else cmpV u v := by
  obtain ⟨ku, nu, tu⟩ := u
  obtain ⟨kv, nv, tv⟩ := v
  rw [cmpV_lex]
  rcases check_kind _ hu with ⟨h1, h2⟩ | ⟨h1, h2⟩ <;> rcases check_kind _ hv with ⟨h3, h4⟩ | ⟨h3, h4⟩
  · simp only at h1 h2 h3 h4 hwu hwv
    subst h1 h2 h3 h4
    have e0 : ∀ (n : Int) (q : List UInt8), encV ⟨1, n, []⟩ ++ q = 1 :: (numB (lift n) 8 ++ q) := fun n q => by simp [encV]
    rw [e0, e0]
    have e1 : lex (fun x y : Val => cmpI x.kind y.kind) (lex (fun x y => cmpI x.num y.num) (fun x y => Lib.compareBytes x.text y.text)) ⟨1, nu, []⟩ ⟨1, nv, []⟩ = cmpI nu nv := by
      have e : cmpI 1 1 = 0 := by decide
      simp only [lex, e, if_true, Lib.compareBytes]
      by_cases h : cmpI nu nv = 0
      · rw [if_pos h, h]
      · rw [if_neg h]
    have e2 : cmpI (lift nu : Int) (lift nv : Int) = cmpI nu nv := by
      rw [lift_of nu hwu, lift_of nv hwv]
      unfold cmpI
      by_cases a1 : nu < nv
      · rw [if_pos (by omega), if_pos a1]
      · rw [if_neg (by omega), if_neg a1]
        by_cases a2 : nv < nu
        · rw [if_pos (by omega), if_pos a2]
        · rw [if_neg (by omega), if_neg a2]
    rw [e1]
    simp only [Lib.compareBytes, UInt8.lt_irrefl, if_false]
    rw [compare_append _ _ _ _ (by rw [length_numB, length_numB]), compare_nums _ _ (lift_lt nu) (lift_lt nv), e2]
  · simp only at h1 h2 h3 h4
    subst h1 h2 h3 h4
    have : (1 : UInt8) < 2 := by decide
    simp [encV, Lib.compareBytes, lex, cmpI, this]
  · simp only at h1 h2 h3 h4
    subst h1 h2 h3 h4
    have h5 : ¬ (2 : UInt8) < 1 := by decide
    have h6 : (1 : UInt8) < 2 := by decide
    simp [encV, Lib.compareBytes, lex, cmpI, h5, h6]
  · simp only at h1 h2 h3 h4
    subst h1 h2 h3 h4
    have e0 : ∀ (t q : List UInt8), encV ⟨2, 0, t⟩ ++ q = 2 :: (esc t ++ 0 :: 0 :: q) := fun t q => by simp [encV]
    rw [e0, e0]
    have e1 : lex (fun x y : Val => cmpI x.kind y.kind) (lex (fun x y => cmpI x.num y.num) (fun x y => Lib.compareBytes x.text y.text)) ⟨2, 0, tu⟩ ⟨2, 0, tv⟩ = Lib.compareBytes tu tv := by
      simp [lex, cmpI]
    rw [e1]
    simp only [Lib.compareBytes, UInt8.lt_irrefl, if_false]
    exact compare_esc tu tv r s
theorem encV_ne (v : Val) : encV v ≠ [] := by unfold encV; split <;> simp
theorem compare_encL (a b : List Val) (ha : checkL a = 0) (hb : checkL b = 0) (hwa : Wf a) (hwb : Wf b) : Lib.compareBytes (encL a) (encL b) = cmpL a b := by
  induction a generalizing b with
  | nil =>
    cases b with
    | nil => rfl
    | cons v b =>
      obtain ⟨x, q, hx⟩ := List.exists_cons_of_ne_nil (encV_ne v)
      simp [encL, hx, Lib.compareBytes, cmpL]
  | cons u a ih =>
    simp only [checkL] at ha
    split at ha
    · rename_i hu
      cases b with
      | nil =>
        obtain ⟨x, q, hx⟩ := List.exists_cons_of_ne_nil (encV_ne u)
        simp [encL, hx, Lib.compareBytes, cmpL]
      | cons v b =>
        simp only [checkL] at hb
        split at hb
        · rename_i hv
          simp only [encL, cmpL]
          rw [compare_enc u v _ _ hu hv (hwa u (by simp)) (hwb v (by simp)), ih b ha hb (fun x hx => hwa x (by simp [hx])) (fun x hx => hwb x (by simp [hx]))]
        · contradiction
    · contradiction
theorem less_encL (a b : List Val) (ha : checkL a = 0) (hb : checkL b = 0) (hwa : Wf a) (hwb : Wf b) : Op.bytesLess (encL a) (encL b) = decide (cmpL a b < 0) ∧ (encL a == encL b) = decide (cmpL a b = 0) := by
  have h := compare_encL a b ha hb hwa hwb
  rw [compareBytes_less] at h
  rw [← h]
  by_cases h1 : Op.bytesLess (encL a) (encL b) = true
  · rw [if_pos h1, h1]
    refine ⟨by simp, ?_⟩
    have : encL a ≠ encL b := by
      intro e
      rw [e, less_irr] at h1
      cases h1
    simp [this]
  · rw [if_neg h1]
    have h2 : Op.bytesLess (encL a) (encL b) = false := by simpa using h1
    rw [h2]
    by_cases h3 : encL a = encL b
    · simp [h3]
    · simp [h3]
end Go.Proofs.Ytiicgfipmdgnhaa
