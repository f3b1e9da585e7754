/- Written and read again, plainly. -/
import Derived.Test.YtiicgfipmdgnhaaQM
namespace Go.Proofs.Ytiicgfipmdgnhaa

theorem readT_esc (t r out : List UInt8) : readT (esc t ++ 0 :: 0 :: r) out = .ok (out ++ t, r) := by
  induction t generalizing out with
  | nil => simp [esc, readT_zz]
  | cons b t ih =>
    simp only [esc]
    split
    · rename_i h; subst h
      simp only [List.cons_append]
      rw [readT_zf, ih]
      simp
    · rename_i h
      simp only [List.cons_append]
      rw [readT_nz _ _ _ h, ih]
      simp

theorem getB_numB (n k : Nat) (hk : k ≤ 8) : getB (numB n k) = n % 256 ^ k := by
  induction k generalizing n with
  | zero => simp [numB, getB, Nat.mod_one]
  | succ k ih =>
    rw [numB, getB_snoc, ih _ (by omega), Nat.pow_succ, Nat.mul_comm (256 ^ k), Nat.mod_mul]
    have h1 : (UInt8.ofNat n).toNat = n % 256 := by simp
    rw [h1]
    have h2 : n / 256 % 256 ^ k < 256 ^ k := Nat.mod_lt _ (Nat.pow_pos (by omega))
    have h3 : (256 : Nat) ^ k ≤ 256 ^ 7 := Nat.pow_le_pow_right (by omega) (by omega)
    have h4 : (256 : Nat) ^ 7 = 72057594037927936 := by decide
    rw [Nat.mod_eq_of_lt (by omega)]
    omega
theorem getB_le (l : List UInt8) (h : l.length ≤ 8) : getB l < 256 ^ l.length := by
  have key : ∀ (k : Nat) (l : List UInt8), l.length = k → k ≤ 8 → getB l < 256 ^ k := by
    intro k
    induction k with
    | zero => intro l hl _; rw [List.eq_nil_of_length_eq_zero hl]; decide
    | succ k ih =>
      intro l hl hk
      rcases List.eq_nil_or_concat l with rfl | ⟨a, b, rfl⟩
      · simp at hl
      · rw [List.concat_eq_append] at hl ⊢
        simp at hl
        have h1 := ih a hl (by omega)
        have h2 := b.toNat_lt
        rw [getB_snoc, Nat.pow_succ]
        have := Nat.mod_le (getB a * 256 + b.toNat) 18446744073709551616
        omega
  exact key _ l rfl h
theorem numB_getB (l : List UInt8) (h : l.length ≤ 8) : numB (getB l) l.length = l := by
  have key : ∀ (k : Nat) (l : List UInt8), l.length = k → k ≤ 8 → numB (getB l) k = l := by
    intro k
    induction k with
    | zero => intro l hl _; rw [List.eq_nil_of_length_eq_zero hl]; rfl
    | succ k ih =>
      intro l hl hk
      rcases List.eq_nil_or_concat l with rfl | ⟨a, b, rfl⟩
      · simp at hl
      · rw [List.concat_eq_append] at hl ⊢
        simp at hl
        have h1 := getB_le a (by omega)
        have h2 := b.toNat_lt
        rw [hl] at h1
        have h3 : (256 : Nat) ^ k ≤ 256 ^ 7 := Nat.pow_le_pow_right (by omega) (by omega)
        have h4 : (256 : Nat) ^ 7 = 72057594037927936 := by decide
        rw [getB_snoc, numB, Nat.mod_eq_of_lt (by omega), show (getB a * 256 + b.toNat) / 256 = getB a by omega, ih a hl (by omega)]
        congr 2
        apply UInt8.toNat_inj.1
        simp
  exact key _ l rfl h

/-- The numbers fit. -/
def Wf (L : List Val) : Prop := ∀ v ∈ L, -9223372036854775808 ≤ v.num ∧ v.num < 9223372036854775808

theorem lift_of (n : Int) (h : -9223372036854775808 ≤ n ∧ n < 9223372036854775808) : (lift n : Int) = n + 9223372036854775808 := by unfold lift; omega
theorem lift_lt (n : Int) : lift n < 18446744073709551616 := by unfold lift; omega

theorem decV_encV (v : Val) (r : List UInt8) (hw : -9223372036854775808 ≤ v.num ∧ v.num < 9223372036854775808) (h : checkV v = 0) : decV (encV v ++ r) = .ok (v, r) := by
  obtain ⟨k, n, t⟩ := v
  simp only [checkV, encV] at h hw ⊢
  split at h
  · rename_i h1
    obtain ⟨rfl, rfl⟩ := h1
    rw [if_pos rfl, List.cons_append, decV_num _ (by simp [length_numB])]
    have e1 : (numB (lift n) 8 ++ r).take 8 = numB (lift n) 8 := by
      rw [List.take_append_of_le_length (by simp [length_numB]), List.take_of_length_le (by simp [length_numB])]
    have e2 : (numB (lift n) 8 ++ r).drop 8 = r := by
      rw [List.drop_append_of_le_length (by simp [length_numB]), List.drop_of_length_le (by simp [length_numB])]
      rfl
    rw [e1, e2, getB_numB _ _ (by omega), Nat.mod_eq_of_lt (by have := lift_lt n; omega), lift_of n hw]
    congr 3
    omega
  · split at h
    · rename_i h1
      obtain ⟨rfl, rfl⟩ := h1
      rw [if_neg (by omega), List.cons_append, List.append_assoc]
      have e1 := readT_esc t r []
      rw [List.nil_append] at e1
      split at h
      · cases h
      · rename_i h2
        exact decV_text _ t r e1 h2
    · cases h

theorem decL_encL (L : List Val) (r : List UInt8) (out : List Val) (hw : Wf L) (h : checkL L = 0) : decL (encL L ++ r) out = decL r (out ++ L) := by
  induction L generalizing out with
  | nil => simp [encL]
  | cons v q ih =>
    simp only [checkL] at h
    split at h
    · rename_i h1
      simp only [encL]
      rw [List.append_assoc, decL_step _ _ _ _ (decV_encV v _ (hw v (by simp)) h1), ih _ (fun x hx => hw x (by simp [hx])) h]
      simp
    · contradiction
theorem dec_enc (L : List Val) (hw : Wf L) (h : checkL L = 0) : decL (encL L) [] = .ok L := by
  have := decL_encL L [] [] hw h
  rw [List.append_nil, decL_nil] at this
  exact this

theorem esc_readT : ∀ (q out t r : List UInt8), readT q out = .ok (t, r) → ∃ t', t = out ++ t' ∧ esc t' ++ 0 :: 0 :: r = q
  | [], _, _, _, h => by simp [readT] at h
  | [b], out, t, r, h => by
    rw [readT.eq_def] at h
    simp only at h
    split at h
    · cases h
    · simp [readT] at h
  | b :: x :: q, out, t, r, h => by
    rw [readT] at h
    split at h
    · rename_i hb; subst hb
      split at h
      · rename_i hx; subst hx
        simp at h
        obtain ⟨rfl, rfl⟩ := h
        exact ⟨[], by simp, rfl⟩
      · split at h
        · rename_i hx; subst hx
          obtain ⟨t', h1, h2⟩ := esc_readT q _ _ _ h
          exact ⟨0 :: t', by rw [h1]; simp, by simp [esc, h2]⟩
        · cases h
    · rename_i hb
      obtain ⟨t', h1, h2⟩ := esc_readT (x :: q) _ _ _ h
      exact ⟨b :: t', by rw [h1]; simp, by simp [esc, hb, h2]⟩

theorem encV_decV (l : List UInt8) (v : Val) (r : List UInt8) (h : decV l = .ok (v, r)) : checkV v = 0 ∧ encV v ++ r = l ∧ (-9223372036854775808 ≤ v.num ∧ v.num < 9223372036854775808) := by
  cases l with
  | nil => cases h
  | cons k q =>
    by_cases hk1 : k = 1
    · subst hk1
      by_cases hq : q.length < 8
      · rw [decV_short q hq] at h; cases h
      · rw [decV_num q hq] at h
        simp only [Except.ok.injEq, Prod.mk.injEq] at h
        obtain ⟨rfl, rfl⟩ := h
        have hg := getB_lt (q.take 8)
        have hr : -9223372036854775808 ≤ (getB (q.take 8) : Int) - 9223372036854775808 ∧ (getB (q.take 8) : Int) - 9223372036854775808 < 9223372036854775808 := by omega
        refine ⟨by simp [checkV], ?_, hr⟩
        have e1 : lift ((getB (q.take 8) : Int) - 9223372036854775808) = getB (q.take 8) := by
          have := lift_of _ hr; omega
        have e2 := numB_getB (q.take 8) (by simp; omega)
        rw [show (q.take 8).length = 8 by simp; omega] at e2
        simp [encV, e1, e2]
    · by_cases hk2 : k = 2
      · subst hk2
        cases hR : readT q [] with
        | error e => rw [decV_terr q e hR] at h; cases h
        | ok tr =>
          obtain ⟨t, r'⟩ := tr
          by_cases ht : t.length > 64
          · rw [decV_long q t r' hR ht] at h; cases h
          · rw [decV_text q t r' hR ht] at h
            simp only [Except.ok.injEq, Prod.mk.injEq] at h
            obtain ⟨rfl, rfl⟩ := h
            obtain ⟨t', h1, h2⟩ := esc_readT q [] t r' hR
            rw [List.nil_append] at h1
            subst h1
            refine ⟨by simp [checkV]; omega, ?_, by simp⟩
            simp [encV, ← h2]
      · rw [decV_kind k q hk1 hk2] at h; cases h

theorem encL_decL : ∀ (n : Nat) (l : List UInt8) (out M : List Val), l.length ≤ n → decL l out = .ok M → ∃ m, M = out ++ m ∧ checkL m = 0 ∧ encL m = l ∧ Wf m := by
  intro n
  induction n with
  | zero =>
    intro l out M hl h
    have : l = [] := List.eq_nil_of_length_eq_zero (by omega)
    subst this
    rw [decL_nil] at h
    cases h
    exact ⟨[], by simp, rfl, rfl, by intro v hv; cases hv⟩
  | succ n ih =>
    intro l out M hl h
    by_cases h0 : l = []
    · subst h0
      rw [decL_nil] at h
      cases h
      exact ⟨[], by simp, rfl, rfl, by intro v hv; cases hv⟩
    · cases hR : decV l with
      | error e => rw [decL_err l out e hR h0] at h; cases h
      | ok vr =>
        obtain ⟨v, r⟩ := vr
        rw [decL_step l out v r hR] at h
        have hlt := decV_lt l v r hR
        obtain ⟨m, h1, h2, h3, h4⟩ := ih r _ M (by omega) h
        obtain ⟨h5, h6, h7⟩ := encV_decV l v r hR
        refine ⟨v :: m, by rw [h1]; simp, by simp [checkL, h5, h2], by rw [encL, h3, h6], ?_⟩
        intro x hx
        rcases List.mem_cons.1 hx with rfl | hx
        · exact h7
        · exact h4 x hx
theorem enc_dec (l : List UInt8) (M : List Val) (h : decL l [] = .ok M) : checkL M = 0 ∧ encL M = l ∧ Wf M := by
  obtain ⟨m, h1, h2, h3, h4⟩ := encL_decL l.length l [] M (Nat.le_refl _) h
  rw [List.nil_append] at h1
  subst h1
  exact ⟨h2, h3, h4⟩
end Go.Proofs.Ytiicgfipmdgnhaa
