/- The sum, bit by bit. -/
import Derived.Test.YtachppnakmdjhaaA
namespace Go.Proofs.Ytachppnakmdjhaa

/-- Bit k of a number. -/
def bitN (s k : Nat) : Nat := s / 2 ^ k % 2
theorem bitN_lt (s k : Nat) : bitN s k < 2 := Nat.mod_lt _ (by omega)
theorem bitN_zero (s : Nat) : bitN s 0 = s % 2 := by simp [bitN]
theorem bitN_half (s k : Nat) : bitN (s / 2) k = bitN s (k + 1) := by
  simp only [bitN]
  rw [Nat.div_div_eq_div_mul, Nat.pow_succ, Nat.mul_comm]
theorem bitN_test (s k : Nat) : s.testBit k = decide (bitN s k = 1) := Nat.testBit_eq_decide_div_mod_eq
theorem bitN_xor (a b k : Nat) : bitN (a ^^^ b) k = (bitN a k + bitN b k) % 2 := by
  have h := Nat.testBit_xor a b k
  rw [bitN_test, bitN_test, bitN_test] at h
  have h1 := bitN_lt (a ^^^ b) k
  have h2 := bitN_lt a k
  have h3 := bitN_lt b k
  rcases (by omega : bitN a k = 0 ∨ bitN a k = 1) with ha | ha <;> rcases (by omega : bitN b k = 0 ∨ bitN b k = 1) with hb | hb <;> rcases (by omega : bitN (a ^^^ b) k = 0 ∨ bitN (a ^^^ b) k = 1) with hc | hc <;> simp [ha, hb, hc] at h ⊢
theorem bitN_big (s k : Nat) (h : s < 2 ^ k) : bitN s k = 0 := by simp [bitN, Nat.div_eq_of_lt h]

theorem half_xor (a b : Nat) : (a ^^^ b) / 2 = a / 2 ^^^ b / 2 := by
  apply Nat.eq_of_testBit_eq
  intro i
  rw [Nat.testBit_xor, Nat.testBit_div_two, Nat.testBit_div_two, Nat.testBit_div_two, Nat.testBit_xor]
theorem odd_xor' (a b : Nat) : (a ^^^ b) % 2 = (a + b) % 2 := by
  have h := bitN_xor a b 0
  rw [bitN_zero, bitN_zero, bitN_zero] at h
  omega
theorem eq_of_half (a b : Nat) (h1 : a / 2 = b / 2) (h2 : a % 2 = b % 2) : a = b := by omega
theorem split_bit (y : Nat) : y = (y % 2) ^^^ (2 * (y / 2)) := by
  apply eq_of_half
  · rw [half_xor, show y % 2 / 2 = 0 by omega, show 2 * (y / 2) / 2 = y / 2 by omega, Nat.zero_xor]
  · rw [odd_xor']; omega
theorem stir1_even (x q : Nat) : stir1 (x ^^^ (2 * q)) = stir1 x ^^^ q := by
  unfold stir1
  rw [odd_xor', half_xor, show 2 * q / 2 = q by omega, show (x + 2 * q) % 2 = x % 2 by omega]
  split
  · rw [Nat.xor_assoc, Nat.xor_comm q, ← Nat.xor_assoc]
  · rfl

/-- The state behind some bits of a byte. -/
def bitsOf (s b : Nat) : Nat → Nat
  | 0 => s
  | r + 1 => stir1 (bitsOf s b r ^^^ bitN b r)
theorem stirN_bits (s b r : Nat) : stirN r (s ^^^ b) = bitsOf s b r ^^^ (b / 2 ^ r) := by
  induction r with
  | zero => simp [stirN, bitsOf]
  | succ r ih =>
    rw [stirN_succ, ih, bitsOf]
    conv => lhs; rw [split_bit (b / 2 ^ r), ← Nat.xor_assoc]
    rw [stir1_even, Nat.div_div_eq_div_mul, ← Nat.pow_succ]
    rfl
theorem stirN_eight (s : Nat) (b : UInt8) : stirN 8 (s ^^^ b.toNat) = bitsOf s b.toNat 8 := by
  rw [stirN_bits, Nat.div_eq_of_lt b.toNat_lt, Nat.xor_zero]

/-- The state behind i bits of all the bytes. -/
def stateAt (l : List UInt8) (i : Nat) : Nat := bitsOf (crcFrom 4294967295 (l.take (i / 8))) ((l[i / 8]?).getD 0).toNat (i % 8)
theorem stateAt_zero (l : List UInt8) : stateAt l 0 = 4294967295 := by simp [stateAt, bitsOf, crcFrom]
theorem stateAt_succ (l : List UInt8) (i : Nat) (u : UInt8) (hu : l[i / 8]? = some u) : stateAt l (i + 1) = stir1 (stateAt l i ^^^ bitN u.toNat (i % 8)) := by
  unfold stateAt
  by_cases h : i % 8 = 7
  · have h1 : (i + 1) / 8 = i / 8 + 1 := by omega
    have h2 : (i + 1) % 8 = 0 := by omega
    rw [h1, h2, h, hu, List.take_add_one, hu, Option.toList_some, crcFrom_snoc, stirN_eight]
    rfl
  · have h1 : (i + 1) / 8 = i / 8 := by omega
    have h2 : (i + 1) % 8 = i % 8 + 1 := by omega
    rw [h1, h2, hu]
    rfl
theorem stateAt_all (l : List UInt8) : stateAt l (l.length * 8) = crcFrom 4294967295 l := by
  unfold stateAt
  rw [Nat.mul_div_cancel _ (by omega), Nat.mul_mod_left, List.take_length]
  rfl
theorem bitsOf_lt (s b r : Nat) (hs : s < 4294967296) : bitsOf s b r < 4294967296 := by
  induction r with
  | zero => exact hs
  | succ r ih =>
    refine stir1_lt _ (Nat.xor_lt_two_pow (n := 32) (by omega) ?_)
    have := bitN_lt b r
    omega
theorem stateAt_lt (l : List UInt8) (i : Nat) : stateAt l i < 4294967296 := bitsOf_lt _ _ _ (crcFrom_lt _ _ (by omega))

/-- The polynomial's bits. -/
def poly (k : Nat) : Nat := bitN 3988292384 k
/-- One step, bit by bit. -/
theorem step_bit (s t k : Nat) (hs : s < 4294967296) (ht : t < 2) (hk : k < 32) :
    bitN (stir1 (s ^^^ t)) k = ((if k < 31 then bitN s (k + 1) else 0) + (bitN s 0 + t) % 2 * poly k) % 2 := by
  have h0 : (s ^^^ t) % 2 = (bitN s 0 + t) % 2 := by rw [odd_xor', bitN_zero]; omega
  have h1 : (s ^^^ t) / 2 = s / 2 := by rw [half_xor, show t / 2 = 0 by omega, Nat.xor_zero]
  have h2 : bitN (s / 2) k = if k < 31 then bitN s (k + 1) else 0 := by
    rw [bitN_half]
    split
    · rfl
    · exact bitN_big _ _ (Nat.lt_of_lt_of_le hs (by rw [show k + 1 = 32 by omega]; decide))
  unfold stir1
  rw [h0, h1]
  split
  · rename_i h
    rw [bitN_xor, h2, h, poly]
    omega
  · rename_i h
    have : (bitN s 0 + t) % 2 = 0 := by omega
    have h3 := bitN_lt (s / 2) k
    rw [h2] at h3
    rw [this, h2, Nat.zero_mul]
    generalize (if k < 31 then bitN s (k + 1) else 0) = z at *
    omega

theorem low_bits (s k : Nat) : s % 2 ^ (k + 1) = s % 2 ^ k + 2 ^ k * bitN s k := by
  rw [Nat.pow_succ, Nat.mod_mul]
  rfl
end Go.Proofs.Ytachppnakmdjhaa
