/- The nodes of periods, plainly. -/
import Derived.Lib.BitFns
import Derived.Laws.BitsLemmas
namespace Go.Proofs.YtigkinakhijfoaaGreat
set_option linter.unusedVariables false
set_option linter.unusedSimpArgs false

/-- How many bits a number has. -/
def bl (n : Nat) : Nat := if n = 0 then 0 else n.log2 + 1
theorem bl_spec (n : Nat) : n < 2 ^ bl n ∧ (n ≠ 0 → 2 ^ (bl n - 1) ≤ n) := by
  unfold bl
  by_cases h : n = 0
  · simp [h]
  · rw [if_neg h]
    exact ⟨Nat.lt_log2_self, fun _ => by rw [Nat.add_sub_cancel]; exact Nat.log2_self_le h⟩
theorem bitLenAux_eq : ∀ (f x : Nat), x < 2 ^ f → Lib.bitLenAux f x = bl x
  | 0, x, h => by simp at h; subst h; rfl
  | f + 1, x, h => by
    unfold Lib.bitLenAux
    by_cases hx : x = 0
    · simp [hx, bl]
    · rw [if_neg hx, bitLenAux_eq f (x / 2) (by rw [Nat.pow_succ] at h; omega)]
      unfold bl
      rw [if_neg hx]
      by_cases h1 : x / 2 = 0
      · have : x = 1 := by omega
        subst this
        decide
      · rw [if_neg h1]
        have : x.log2 = (x / 2).log2 + 1 := by
          rw [Nat.log2_def x, if_pos (by omega)]
        omega
theorem bitLen_bl (x : Nat) (h : x < 18446744073709551616) : Lib.bitLen x = bl x := bitLenAux_eq 64 x (by omega)
/-- The node of a level in whose place a number is. -/
def anc (x j : Nat) : Nat := x / 2 ^ (j + 1) * 2 ^ (j + 1) + 2 ^ j
/-- The nodes above a number, the nearest first. -/
def ancs (x : Nat) : List Nat := if x = 0 then [] else ((List.range 40).filter (fun j => decide (x % 2 ^ (j + 1) ≠ 0))).map (fun j => anc x (j + 1)) ++ [0]
def forkP (f t : Nat) : Nat := bl ((t - 1) ^^^ (f - 1)) - 1
/-- The node at which a period is filed. -/
def forkN (f t : Nat) : Nat := if f = 0 then 0 else (t - 1) / 2 ^ forkP f t * 2 ^ forkP f t

theorem pow_pos' (k : Nat) : 0 < 2 ^ k := Nat.pow_pos (by decide)
/-- Two numbers and the highest bit in which they differ. -/
theorem top_bit {a b : Nat} (h : a < b) : ∃ k q, k = bl (b ^^^ a) - 1 ∧ a / 2 ^ k = 2 * q ∧ b / 2 ^ k = 2 * q + 1 ∧ 2 ^ k ≤ b ^^^ a := by
  have hc : b ^^^ a ≠ 0 := fun e => by
    have : b = a := by
      apply Nat.eq_of_testBit_eq
      intro i
      have h1 := congrArg (fun z => z.testBit i) e
      simp only [Nat.testBit_xor, Nat.zero_testBit] at h1
      revert h1
      cases b.testBit i <;> cases a.testBit i <;> simp
    omega
  obtain ⟨h1, h2⟩ := bl_spec (b ^^^ a)
  have h2 := h2 hc
  generalize hk : bl (b ^^^ a) - 1 = k at *
  have hk1 : bl (b ^^^ a) = k + 1 := by
    have : bl (b ^^^ a) ≠ 0 := fun e => by rw [e] at h1; simp at h1; exact hc h1
    omega
  rw [hk1] at h1
  have e1 : (b ^^^ a) / 2 ^ k = 1 := by
    have h3 : (b ^^^ a) / 2 ^ k < 2 := by
      rw [Nat.div_lt_iff_lt_mul (pow_pos' k)]
      rw [Nat.pow_succ] at h1; omega
    have h4 : 1 ≤ (b ^^^ a) / 2 ^ k := by rw [Nat.le_div_iff_mul_le (pow_pos' k)]; omega
    omega
  have e2 : b / 2 ^ k ^^^ a / 2 ^ k = 1 := by
    rw [← Nat.shiftRight_eq_div_pow, ← Nat.shiftRight_eq_div_pow, ← Nat.shiftRight_xor_distrib, Nat.shiftRight_eq_div_pow]; exact e1
  have h5 : a / 2 ^ k ≤ b / 2 ^ k := Nat.div_le_div_right (by omega)
  obtain ⟨A, hA⟩ : ∃ A, A = a / 2 ^ k := ⟨_, rfl⟩
  obtain ⟨B, hB⟩ : ∃ B, B = b / 2 ^ k := ⟨_, rfl⟩
  rw [← hA, ← hB] at e2 h5
  have e3 : B / 2 = A / 2 := by
    have h6 : (B ^^^ A) / 2 = 0 := by rw [e2]
    have h7 : (B ^^^ A) >>> 1 = B >>> 1 ^^^ A >>> 1 := Nat.shiftRight_xor_distrib ..
    rw [Nat.shiftRight_eq_div_pow, Nat.shiftRight_eq_div_pow, Nat.shiftRight_eq_div_pow, Nat.pow_one, h6] at h7
    apply Nat.eq_of_testBit_eq
    intro i
    have h1 := congrArg (fun z => z.testBit i) h7.symm
    simp only [Nat.testBit_xor, Nat.zero_testBit] at h1
    revert h1
    cases (B / 2).testBit i <;> cases (A / 2).testBit i <;> simp
  have e4 : B ≠ A := fun e => by rw [e, Nat.xor_self] at e2; cases e2
  exact ⟨k, A / 2, rfl, by rw [← hA]; omega, by rw [← hB]; omega, h2⟩

/-- What is known of a period's node: an odd multiple of a power, and no multiple of twice the power is within. -/
theorem fork_spec {f t : Nat} (h : f < t) (hf : f ≠ 0) : ∃ q, forkN f t = (2 * q + 1) * 2 ^ forkP f t ∧ f ≤ forkN f t ∧ forkN f t < t ∧ 2 * q * 2 ^ forkP f t < f ∧ t ≤ (2 * q + 2) * 2 ^ forkP f t := by
  obtain ⟨k, q, hk, ha, hb, hle⟩ := top_bit (a := f - 1) (b := t - 1) (by omega)
  have hP : forkP f t = k := hk.symm
  have hN : forkN f t = (2 * q + 1) * 2 ^ k := by unfold forkN; rw [if_neg hf, hP, hb]
  rw [hN, hP]
  have p := pow_pos' k
  have a1 := Nat.div_add_mod (f - 1) (2 ^ k)
  have b1 := Nat.div_add_mod (t - 1) (2 ^ k)
  have a2 := Nat.mod_lt (f - 1) p
  have b2 := Nat.mod_lt (t - 1) p
  rw [ha] at a1
  rw [hb] at b1
  generalize (f - 1) % 2 ^ k = x at *
  generalize (t - 1) % 2 ^ k = y at *
  generalize 2 ^ k = P at *
  have e1 : P * (2 * q) = 2 * q * P := Nat.mul_comm ..
  have e2 : P * (2 * q + 1) = 2 * q * P + P := by rw [Nat.mul_add, e1]; omega
  have e3 : (2 * q + 1) * P = 2 * q * P + P := by rw [Nat.add_mul]; omega
  have e4 : (2 * q + 2) * P = 2 * q * P + 2 * P := by rw [Nat.add_mul]
  exact ⟨q, rfl, by omega, by omega, by omega, by omega⟩
theorem fork_lt {f t : Nat} (h : f < t) : f ≤ forkN f t ∧ forkN f t < t ∨ f = 0 ∧ forkN f t = 0 := by
  by_cases hf : f = 0
  · exact .inr ⟨hf, by unfold forkN; rw [if_pos hf]⟩
  · obtain ⟨q, _, h1, h2, _⟩ := fork_spec h hf
    exact .inl ⟨h1, h2⟩
theorem fork_has {f t : Nat} (h : f < t) : f ≤ forkN f t ∧ forkN f t < t := by
  rcases fork_lt h with h1 | ⟨rfl, h1⟩
  · exact h1
  · rw [h1]; omega
theorem forkP_lt {f t : Nat} (h : f < t) (hf : f ≠ 0) (ht : t ≤ 2 ^ 40) : forkP f t < 40 := by
  obtain ⟨k, q, hk, ha, hb, hle⟩ := top_bit (a := f - 1) (b := t - 1) (by omega)
  have hP : forkP f t = k := hk.symm
  rw [hP]
  have p := pow_pos' k
  have h1 : 2 ^ k ≤ t - 1 := by
    have := Nat.div_add_mod (t - 1) (2 ^ k)
    rw [hb, Nat.mul_add] at this
    omega
  exact (Nat.pow_lt_pow_iff_right (by decide : 1 < 2)).1 (by omega : 2 ^ k < 2 ^ 40)
/-- A node above: how it stands. -/
theorem anc_eq {x q k : Nat} (h1 : 2 * q * 2 ^ k ≤ x) (h2 : x < (2 * q + 2) * 2 ^ k) : anc x k = (2 * q + 1) * 2 ^ k := by
  unfold anc
  have p := pow_pos' k
  have hp : 2 ^ (k + 1) = 2 * 2 ^ k := by rw [Nat.pow_succ]; omega
  rw [hp]
  generalize 2 ^ k = P at *
  have e2 : 2 * q * P = q * (2 * P) := by ac_rfl
  have e3 : (2 * q + 2) * P = (q + 1) * (2 * P) := by rw [Nat.add_mul, Nat.add_mul, e2]; omega
  have : x / (2 * P) = q := Nat.div_eq_of_lt_le (by omega) (by omega)
  rw [this, Nat.add_mul, e2]; omega
theorem anc_form (x k : Nat) : ∃ q, anc x k = (2 * q + 1) * 2 ^ k ∧ 2 * q * 2 ^ k ≤ x ∧ x < (2 * q + 2) * 2 ^ k := by
  have p := pow_pos' k
  have hp : 2 ^ (k + 1) = 2 * 2 ^ k := by rw [Nat.pow_succ]; omega
  refine ⟨x / 2 ^ (k + 1), ?_, ?_, ?_⟩
  · unfold anc
    rw [hp]
    generalize x / (2 * 2 ^ k) = q
    rw [Nat.add_mul, Nat.one_mul]
    congr 1
    ac_rfl
  · rw [hp]
    have := Nat.div_mul_le_self x (2 * 2 ^ k)
    rw [show 2 * (x / (2 * 2 ^ k)) * 2 ^ k = x / (2 * 2 ^ k) * (2 * 2 ^ k) by ac_rfl]
    exact this
  · rw [hp]
    have := Nat.div_add_mod x (2 * 2 ^ k)
    have h2 := Nat.mod_lt x (by omega : 0 < 2 * 2 ^ k)
    rw [Nat.add_mul, show 2 * (x / (2 * 2 ^ k)) * 2 ^ k = 2 * 2 ^ k * (x / (2 * 2 ^ k)) by ac_rfl]
    omega
theorem mem_ancs {x n : Nat} : n ∈ ancs x ↔ x ≠ 0 ∧ (n = 0 ∨ ∃ j, j < 40 ∧ x % 2 ^ (j + 1) ≠ 0 ∧ n = anc x (j + 1)) := by
  unfold ancs
  by_cases hx : x = 0
  · simp [hx]
  · simp only [hx, if_false, List.mem_append, List.mem_map, List.mem_filter, List.mem_range, List.mem_singleton, decide_eq_true_eq, ne_eq, not_false_eq_true, true_and]
    constructor
    · rintro (⟨j, ⟨h1, h2⟩, rfl⟩ | rfl)
      · exact .inr ⟨j, h1, h2, rfl⟩
      · exact .inl rfl
    · rintro (rfl | ⟨j, h1, h2, rfl⟩)
      · exact .inr rfl
      · exact .inl ⟨j, ⟨h1, h2⟩, rfl⟩
theorem anc_pos (x k : Nat) : 0 < anc x k := by unfold anc; have := pow_pos' k; omega
/-- Odd multiples of powers tell the power. -/
theorem odd_inj {q k q' k' : Nat} (h : (2 * q + 1) * 2 ^ k = (2 * q' + 1) * 2 ^ k') : k = k' := by
  have aux : ∀ {a b c d : Nat}, b < d → (2 * a + 1) * 2 ^ b = (2 * c + 1) * 2 ^ d → False := fun {a b c d} hlt he => by
    obtain ⟨e, rfl⟩ : ∃ e, d = b + 1 + e := ⟨d - b - 1, by omega⟩
    rw [show (2 * c + 1) * 2 ^ (b + 1 + e) = (2 * ((2 * c + 1) * 2 ^ e)) * 2 ^ b by rw [Nat.pow_add, Nat.pow_succ]; ac_rfl] at he
    have := Nat.eq_of_mul_eq_mul_right (pow_pos' b) he
    omega
  rcases Nat.lt_trichotomy k k' with h1 | h1 | h1
  · exact (aux h1 h).elim
  · exact h1
  · exact (aux h1 h.symm).elim
theorem anc_inj {x i j : Nat} (h : anc x i = anc x j) : i = j := by
  obtain ⟨q, h1, _⟩ := anc_form x i
  obtain ⟨q', h2, _⟩ := anc_form x j
  rw [h1, h2] at h
  exact odd_inj h
theorem ancs_nodup (x : Nat) : (ancs x).Nodup := by
  unfold ancs
  split
  · exact List.nodup_nil
  · rw [List.nodup_append]
    refine ⟨?_, by simp, ?_⟩
    · unfold List.Nodup
      rw [List.pairwise_map]
      refine List.Pairwise.filter _ (List.Pairwise.imp ?_ (List.nodup_range (n := 40)))
      intro a b hab he
      exact hab (by have := anc_inj he; omega)
    · intro a ha b hb
      simp only [List.mem_singleton] at hb
      subst hb
      obtain ⟨j, _, rfl⟩ := List.mem_map.1 ha
      have := anc_pos x (j + 1)
      omega
/-- A period's node, seen from a number within that isn't the node: it is above the number. -/
theorem fork_above {f t x : Nat} (h : f < t) (ht : t ≤ 2 ^ 40) (h1 : f ≤ x) (h2 : x < t) (hn : forkN f t ≠ x) : forkN f t ∈ ancs x := by
  have hlt := fork_has h
  by_cases hf : f = 0
  · rw [mem_ancs]
    have h0 : forkN f t = 0 := by unfold forkN; rw [if_pos hf]
    exact ⟨by omega, .inl h0⟩
  · obtain ⟨q, e1, e2, e3, e4, e5⟩ := fork_spec h hf
    have hk := forkP_lt h hf ht
    rw [mem_ancs]
    refine ⟨by omega, .inr ?_⟩
    generalize hK : forkP f t = k at *
    rw [e1] at hn ⊢
    have ha := anc_eq (x := x) (q := q) (k := k) (by omega) (by omega)
    -- the power is not 1: else x would be the node
    have hk0 : k ≠ 0 := fun e => by
      rw [e] at e4 e5 hn
      simp only [Nat.pow_zero, Nat.mul_one] at e4 e5 hn
      omega
    refine ⟨k - 1, by omega, ?_, by rw [show k - 1 + 1 = k by omega, ha]⟩
    rw [show k - 1 + 1 = k by omega]
    intro hm
    have p := pow_pos' k
    have d1 := Nat.div_add_mod x (2 ^ k)
    rw [hm, Nat.add_zero] at d1
    generalize x / 2 ^ k = c at *
    rw [← d1, Nat.mul_comm] at hn
    have g1 : 2 * q < c := by
      have : 2 * q * 2 ^ k < c * 2 ^ k := by rw [Nat.mul_comm c]; omega
      exact Nat.lt_of_mul_lt_mul_right this
    have g2 : c < 2 * q + 2 := by
      have : c * 2 ^ k < (2 * q + 2) * 2 ^ k := by rw [Nat.mul_comm c]; omega
      exact Nat.lt_of_mul_lt_mul_right this
    exact hn (by rw [show c = 2 * q + 1 by omega])
/-- Two periods overlap just if the one's node is within the other, or beside it at a node above an end, and the one reaches in. -/
theorem over_iff {f t a b : Nat} (h : f < t) (ht : t ≤ 2 ^ 40) (hab : a < b) : (f < b ∧ a < t) ↔ (forkN f t ∈ ancs a ∧ forkN f t < a ∧ a < t) ∨ (a ≤ forkN f t ∧ forkN f t < b) ∨ (forkN f t ∈ ancs (b - 1) ∧ b ≤ forkN f t ∧ f < b) := by
  have hh := fork_has h
  constructor
  · rintro ⟨h1, h2⟩
    by_cases c1 : forkN f t < a
    · exact .inl ⟨fork_above h ht (by omega) h2 (by omega), c1, h2⟩
    · by_cases c2 : forkN f t < b
      · exact .inr (.inl ⟨by omega, c2⟩)
      · exact .inr (.inr ⟨fork_above h ht (by omega) (by omega) (by omega), by omega, h1⟩)
  · rintro (⟨_, h1, h2⟩ | ⟨h1, h2⟩ | ⟨_, h1, h2⟩) <;> omega
end Go.Proofs.YtigkinakhijfoaaGreat

/- Bits of nodes. -/
namespace Go.Proofs.YtigkinakhijfoaaGreat
set_option linter.unusedVariables false
set_option linter.unusedSimpArgs false

theorem wraps_i64 (n : Int) (h₀ : 0 ≤ n) (h₁ : n < 2 ^ 63) : IntKind.i64.wrap n = n := by rw [IntKind.wrap_i64]; omega
theorem ofInt_nat64 (a : Nat) (ha : a < 18446744073709551616) : (BitVec.ofInt 64 (a : Int)).toNat = a := by
  rw [BitVec.ofInt_natCast, BitVec.toNat_ofNat]; exact Nat.mod_eq_of_lt (by omega)
theorem xor_i64 (a b : Nat) (ha : a < 9223372036854775808) (hb : b < 9223372036854775808) : bits .xor .i64 (a : Int) (b : Int) = ((a ^^^ b : Nat) : Int) := by
  have hx : a ^^^ b < 2 ^ 63 := Nat.xor_lt_two_pow (by omega) (by omega)
  show IntKind.i64.wrap ((BitVec.ofInt 64 (a : Int) ^^^ BitVec.ofInt 64 (b : Int)).toNat : Int) = _
  rw [BitVec.toNat_xor, ofInt_nat64 a (by omega), ofInt_nat64 b (by omega), IntKind.wrap_i64]
  omega
theorem or_i64 (a b : Nat) (ha : a < 9223372036854775808) (hb : b < 9223372036854775808) : bits .or .i64 (a : Int) (b : Int) = ((a ||| b : Nat) : Int) :=
  (bits_nat .i64 63 (by decide) wraps_i64 a b (by omega) (by omega)).2
theorem odd_and {q r m : Nat} (hm : q + r + 1 = 2 ^ m) : (2 * q + 1) &&& (2 * r + 1) = 1 := by
  apply Nat.eq_of_testBit_eq
  intro i
  cases i with
  | zero => simp
  | succ i =>
    have hr : r = 2 ^ m - (q + 1) := by omega
    have h1 : (2 * q + 1) / 2 = q := by omega
    have h2 : (2 * r + 1) / 2 = r := by omega
    rw [Nat.testBit_and, Nat.testBit_succ, Nat.testBit_succ, h1, h2, hr, Nat.testBit_two_pow_sub_succ (by omega), Nat.testBit_succ]
    cases q.testBit i <;> simp
/-- The lowest bit. -/
theorem low_bit {q k : Nat} (h : (2 * q + 1) * 2 ^ k < 2 ^ 63) : (2 * q + 1) * 2 ^ k &&& (2 ^ 64 - (2 * q + 1) * 2 ^ k) = 2 ^ k := by
  have hk : k < 63 := by
    have p := pow_pos' k
    have : 2 ^ k ≤ (2 * q + 1) * 2 ^ k := Nat.le_mul_of_pos_left _ (by omega)
    exact (Nat.pow_lt_pow_iff_right (by decide : 1 < 2)).1 (by omega : 2 ^ k < 2 ^ 63)
  have e1 : 2 ^ 63 = 2 ^ (63 - k) * 2 ^ k := by rw [← Nat.pow_add]; congr 1; omega
  have e2 : 2 ^ 64 = 2 * 2 ^ 63 := by decide
  have hq : 2 * q + 1 < 2 ^ (63 - k) := by
    rw [e1] at h
    exact Nat.lt_of_mul_lt_mul_right h
  obtain ⟨r, hr⟩ : ∃ r, q + r + 1 = 2 ^ (63 - k) := ⟨2 ^ (63 - k) - q - 1, by omega⟩
  have e3 : 2 ^ 64 - (2 * q + 1) * 2 ^ k = (2 * r + 1) * 2 ^ k := by
    rw [e2, e1, ← hr]
    rw [show 2 * ((q + r + 1) * 2 ^ k) = (2 * q + 1) * 2 ^ k + (2 * r + 1) * 2 ^ k by rw [← Nat.mul_assoc, ← Nat.add_mul]; congr 1; omega]
    exact Nat.add_sub_cancel_left ..
  rw [e3, ← Nat.shiftLeft_eq, ← Nat.shiftLeft_eq, ← Nat.shiftLeft_and_distrib, odd_and hr, Nat.shiftLeft_eq, Nat.one_mul]
theorem and_neg {q k : Nat} (h : (2 * q + 1) * 2 ^ k < 2 ^ 63) : bits .and .i64 (((2 * q + 1) * 2 ^ k : Nat) : Int) (-(((2 * q + 1) * 2 ^ k : Nat) : Int)) = ((2 ^ k : Nat) : Int) := by
  have hl := low_bit h
  have h0 : 0 < (2 * q + 1) * 2 ^ k := Nat.mul_pos (by omega) (pow_pos' k)
  have hk : 2 ^ k ≤ (2 * q + 1) * 2 ^ k := Nat.le_mul_of_pos_left _ (by omega)
  generalize (2 * q + 1) * 2 ^ k = n at *
  have hn : (BitVec.ofInt 64 (-(n : Int))).toNat = 2 ^ 64 - n := by
    rw [BitVec.toNat_ofInt]
    omega
  show IntKind.i64.wrap ((BitVec.ofInt 64 (n : Int) &&& BitVec.ofInt 64 (-(n : Int))).toNat : Int) = _
  rw [BitVec.toNat_and, ofInt_nat64 n (by omega), hn, hl, IntKind.wrap_i64]
  generalize 2 ^ k = p at *
  omega
theorem or_up (q k : Nat) : q * 2 ^ (k + 1) ||| 2 ^ (k + 1) = (2 * (q / 2) + 1) * 2 ^ (k + 1) := by
  have h : (q ||| 1) = 2 * (q / 2) + 1 := by
    apply Nat.eq_of_testBit_eq
    intro i
    cases i with
    | zero => simp
    | succ i =>
      rw [Nat.testBit_or, Nat.testBit_succ, Nat.testBit_succ (2 * (q / 2) + 1), show (2 * (q / 2) + 1) / 2 = q / 2 by omega]
      simp [Nat.testBit_succ]
  have : 2 ^ (k + 1) = 1 * 2 ^ (k + 1) := by omega
  rw [← h, ← Nat.shiftLeft_eq, ← Nat.shiftLeft_eq, Nat.shiftLeft_or_distrib, Nat.shiftLeft_eq 1, Nat.one_mul]
/-- The node above a node. -/
theorem anc_up {q k : Nat} : anc ((2 * q + 1) * 2 ^ k) (k + 1) = (2 * (q / 2) + 1) * 2 ^ (k + 1) := by
  apply anc_eq
  · have e1 : 2 * (q / 2) * 2 ^ (k + 1) = (4 * (q / 2)) * 2 ^ k := by rw [Nat.pow_succ, show 4 = 2 * 2 by rfl]; ac_rfl
    rw [e1]
    exact Nat.mul_le_mul_right _ (by omega)
  · have e1 : (2 * (q / 2) + 2) * 2 ^ (k + 1) = (4 * (q / 2) + 4) * 2 ^ k := by rw [Nat.pow_succ, show 2 ^ k * 2 = 2 * 2 ^ k by omega, ← Nat.mul_assoc]; congr 1; omega
    rw [e1]
    exact Nat.mul_lt_mul_of_pos_right (by omega) (pow_pos' k)
/-- Every number above 0 is an odd multiple of a power. -/
theorem odd_form : ∀ (n : Nat), n ≠ 0 → ∃ q k, n = (2 * q + 1) * 2 ^ k := by
  intro n
  induction n using Nat.strongRecOn with
  | _ n ih =>
    intro hn
    by_cases h : n % 2 = 1
    · exact ⟨n / 2, 0, by simp; omega⟩
    · obtain ⟨q, k, e⟩ := ih (n / 2) (by omega) (by omega)
      exact ⟨q, k + 1, by rw [Nat.pow_succ, ← Nat.mul_assoc, ← e]; omega⟩
theorem odd_mod {q k j : Nat} : ((2 * q + 1) * 2 ^ k) % 2 ^ j = 0 ↔ j ≤ k := by
  constructor
  · intro h
    apply Nat.le_of_not_lt
    intro hlt
    obtain ⟨e, rfl⟩ : ∃ e, j = k + 1 + e := ⟨j - k - 1, by omega⟩
    have h1 := Nat.div_add_mod ((2 * q + 1) * 2 ^ k) (2 ^ (k + 1 + e))
    rw [h, Nat.add_zero] at h1
    generalize (2 * q + 1) * 2 ^ k / 2 ^ (k + 1 + e) = c at h1
    rw [show 2 ^ (k + 1 + e) * c = (2 * (2 ^ e * c)) * 2 ^ k by rw [Nat.pow_add, Nat.pow_succ]; ac_rfl] at h1
    have := Nat.eq_of_mul_eq_mul_right (pow_pos' k) h1
    omega
  · intro h
    obtain ⟨e, rfl⟩ : ∃ e, k = j + e := ⟨k - j, by omega⟩
    rw [Nat.pow_add, show (2 * q + 1) * (2 ^ j * 2 ^ e) = 2 ^ j * ((2 * q + 1) * 2 ^ e) by ac_rfl]
    exact Nat.mul_mod_right ..
/-- The nodes above, from a level on. -/
def ups (x : Nat) : Nat → Nat → List Nat
  | 0, _ => [0]
  | m + 1, j => anc x j :: ups x m (j + 1)
theorem ups_range (x : Nat) : ∀ m j, ups x m j = (List.range' j m).map (fun i => anc x i) ++ [0]
  | 0, j => rfl
  | m + 1, j => by rw [ups, ups_range x m (j + 1), List.range'_succ]; rfl
theorem ancs_ups {q k : Nat} (hk : k ≤ 40) : ancs ((2 * q + 1) * 2 ^ k) = ups ((2 * q + 1) * 2 ^ k) (40 - k) (k + 1) := by
  have hx : (2 * q + 1) * 2 ^ k ≠ 0 := by have := Nat.mul_pos (show 0 < 2 * q + 1 by omega) (pow_pos' k); omega
  unfold ancs
  rw [if_neg hx, ups_range]
  congr 1
  have h1 : List.range 40 = List.range k ++ List.range' k (40 - k) := by
    have := List.range'_append_1 (s := 0) (m := k) (n := 40 - k)
    rw [Nat.zero_add, show k + (40 - k) = 40 by omega] at this
    rw [List.range_eq_range', List.range_eq_range', this]
  rw [h1, List.filter_append, List.filter_eq_nil_iff.2 ?_, List.filter_eq_self.2 ?_, List.nil_append]
  · rw [show k + 1 = 1 + k by omega, ← List.map_add_range', List.map_map]
    congr 1
    funext i
    simp [Nat.add_comm]
  · intro i hi
    rw [List.mem_range'_1] at hi
    simp only [ne_eq, decide_not, Bool.not_eq_true', decide_eq_false_iff_not]
    rw [odd_mod]
    omega
  · intro i hi
    rw [List.mem_range] at hi
    simp only [ne_eq, decide_not, Bool.not_eq_true', decide_eq_false_iff_not, Classical.not_not]
    rw [odd_mod]
    omega
end Go.Proofs.YtigkinakhijfoaaGreat
