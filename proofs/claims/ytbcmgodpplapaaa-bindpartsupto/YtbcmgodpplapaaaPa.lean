/- BindParts: numbers exactly; what the document's Eval says, plainly. -/
import Derived.Test.YtbcmgodpplapaaaW
namespace Go.Proofs.Ytbcmgodpplapaaa
open Go.RowKit
set_option maxRecDepth 100000
set_option linter.unusedVariables false
set_option linter.unusedSimpArgs false

theorem wrap_toInt (x : BitVec 64) : IntKind.i64.wrap (x.toNat : Int) = x.toInt := by
  rw [BitVec.toInt_eq_toNat_cond]
  have := x.isLt
  simp only [IntKind.wrap, IntKind.bits, IntKind.signed, Bool.true_and, decide_eq_true_eq, ge_iff_le]
  by_cases h : 2 * x.toNat < 2 ^ 64
  · rw [if_pos h, if_neg (by omega)]; omega
  · rw [if_neg h, if_pos (by omega)]; omega
theorem xor_i64 (a b : Int) : bits .xor .i64 a b = (BitVec.ofInt 64 a ^^^ BitVec.ofInt 64 b).toInt := by
  show IntKind.i64.wrap ((BitVec.ofInt 64 a ^^^ BitVec.ofInt 64 b).toNat : Int) = _
  exact wrap_toInt _
theorem and_i64 (a b : Int) : bits .and .i64 a b = (BitVec.ofInt 64 a &&& BitVec.ofInt 64 b).toInt := by
  show IntKind.i64.wrap ((BitVec.ofInt 64 a &&& BitVec.ofInt 64 b).toNat : Int) = _
  exact wrap_toInt _
theorem msb_of (a : Int) (h : -9223372036854775808 ≤ a ∧ a ≤ 9223372036854775807) : (BitVec.ofInt 64 a).msb = decide (a < 0) := by
  rw [BitVec.msb_eq_toInt, BitVec.toInt_ofInt]
  have : a.bmod (2 ^ 64) = a := by rw [Int.bmod_def]; split <;> omega
  rw [this]
theorem ge0 (x : BitVec 64) : decide (0 ≤ x.toInt) = !x.msb := by
  rw [BitVec.msb_eq_toInt]
  by_cases h : x.toInt < 0
  · simp [h]
  · simp [h]; omega
theorem okS_iff (a b : Int) (ha : -9223372036854775808 ≤ a ∧ a ≤ 9223372036854775807) (hb : -9223372036854775808 ≤ b ∧ b ≤ 9223372036854775807) : okS a b = true ↔ (-9223372036854775808 ≤ a + b ∧ a + b ≤ 9223372036854775807) := by
  unfold okS
  rw [xor_i64, xor_i64, and_i64, BitVec.ofInt_toInt, BitVec.ofInt_toInt, ge0]
  have hw : -9223372036854775808 ≤ wrap64 (a + b) ∧ wrap64 (a + b) ≤ 9223372036854775807 := by unfold wrap64; omega
  rw [BitVec.msb_and, BitVec.msb_xor, BitVec.msb_xor, msb_of a ha, msb_of b hb, msb_of _ hw]
  have hd : wrap64 (a + b) = (a + b + 9223372036854775808) % 18446744073709551616 - 9223372036854775808 := by unfold wrap64; omega
  by_cases h1 : a < 0 <;> by_cases h2 : b < 0 <;> by_cases h3 : wrap64 (a + b) < 0 <;> simp [h1, h2, h3] <;> omega
theorem okD_iff (a b : Int) (ha : -9223372036854775808 ≤ a ∧ a ≤ 9223372036854775807) (hb : -9223372036854775808 ≤ b ∧ b ≤ 9223372036854775807) : okD a b = true ↔ (-9223372036854775808 ≤ a - b ∧ a - b ≤ 9223372036854775807) := by
  unfold okD
  rw [xor_i64, xor_i64, and_i64, BitVec.ofInt_toInt, BitVec.ofInt_toInt, ge0]
  have hw : -9223372036854775808 ≤ wrap64 (a - b) ∧ wrap64 (a - b) ≤ 9223372036854775807 := by unfold wrap64; omega
  rw [BitVec.msb_and, BitVec.msb_xor, BitVec.msb_xor, msb_of a ha, msb_of b hb, msb_of _ hw]
  have hd : wrap64 (a - b) = (a - b + 9223372036854775808) % 18446744073709551616 - 9223372036854775808 := by unfold wrap64; omega
  by_cases h1 : a < 0 <;> by_cases h2 : b < 0 <;> by_cases h3 : wrap64 (a - b) < 0 <;> simp [h1, h2, h3] <;> omega
theorem u64w (a : Int) (ha : -9223372036854775808 ≤ a ∧ a ≤ 9223372036854775807) : IntKind.u64.wrap a = if a < 0 then a + 18446744073709551616 else a := by
  rw [IntKind.wrap_u64]; split <;> omega
theorem and_ones (b : Int) (h0 : 0 ≤ b) (h1 : b < 18446744073709551616) : bits BinOp.and IntKind.u64 18446744073709551615 b = b := by
  obtain ⟨B, rfl⟩ := Int.eq_ofNat_of_zero_le h0
  have h := u64_and_nat 18446744073709551615 B (by omega) (by omega)
  have h2 : (18446744073709551615 &&& B : Nat) = B := by
    rw [Nat.and_comm]
    have := Nat.and_two_pow_sub_one_eq_mod B 64
    rw [show (18446744073709551615 : Nat) = 2 ^ 64 - 1 by decide, this]
    omega
  rw [h2] at h
  exact h
theorem and_zero' (b : Int) (h0 : 0 ≤ b) (h1 : b < 18446744073709551616) : bits BinOp.and IntKind.u64 0 b = 0 := by
  obtain ⟨B, rfl⟩ := Int.eq_ofNat_of_zero_le h0
  have h := u64_and_nat 0 B (by omega) (by omega)
  rw [Nat.zero_and] at h
  exact h
theorem mul_bound (a b : Int) (ha : -9223372036854775808 ≤ a ∧ a ≤ 9223372036854775807) (hb : -9223372036854775808 ≤ b ∧ b ≤ 9223372036854775807) : -85070591730234615865843651857942052864 ≤ a * b ∧ a * b ≤ 85070591730234615865843651857942052864 := by
  have h1 : a.natAbs ≤ 9223372036854775808 := by omega
  have h2 : b.natAbs ≤ 9223372036854775808 := by omega
  have h3 : (a * b).natAbs ≤ 9223372036854775808 * 9223372036854775808 := by rw [Int.natAbs_mul]; exact Nat.mul_le_mul h1 h2
  omega
theorem okM_fin (p x lo k : Int) (hpb : -85070591730234615865843651857942052864 ≤ p ∧ p ≤ 85070591730234615865843651857942052864) (h1 : x = p / 18446744073709551616 + 18446744073709551616 * k) (h2 : lo % 18446744073709551616 = p % 18446744073709551616) :
    (x % 18446744073709551616 = wrap64 (lo % 18446744073709551616) / 9223372036854775808 % 18446744073709551616 ↔ (-9223372036854775808 ≤ p ∧ p ≤ 9223372036854775807)) ∧ (x % 18446744073709551616 = wrap64 (lo % 18446744073709551616) / 9223372036854775808 % 18446744073709551616 → wrap64 (lo % 18446744073709551616) = p) := by
  obtain ⟨q, hq⟩ : ∃ q, q = p / 18446744073709551616 := ⟨_, rfl⟩
  obtain ⟨r, hr⟩ : ∃ r, r = p % 18446744073709551616 := ⟨_, rfl⟩
  have hp : p = 18446744073709551616 * q + r := by omega
  have hr0 : 0 ≤ r ∧ r < 18446744073709551616 := by omega
  have hqb : -4611686018427387904 ≤ q ∧ q ≤ 4611686018427387904 := by omega
  rw [h2, ← hr, h1, ← hq]
  have hx : (q + 18446744073709551616 * k) % 18446744073709551616 = if q < 0 then q + 18446744073709551616 else q := by split <;> omega
  rw [hx]
  by_cases hc : r < 9223372036854775808
  · have hw : wrap64 r = r := by unfold wrap64; omega
    rw [hw, show r / 9223372036854775808 % 18446744073709551616 = 0 by omega]
    split <;> omega
  · have hw : wrap64 r = r - 18446744073709551616 := by unfold wrap64; omega
    rw [hw, show (r - 18446744073709551616) / 9223372036854775808 % 18446744073709551616 = 18446744073709551615 by omega]
    split <;> omega
theorem okM_iff (a b : Int) (ha : -9223372036854775808 ≤ a ∧ a ≤ 9223372036854775807) (hb : -9223372036854775808 ≤ b ∧ b ≤ 9223372036854775807) : (okM a b = true ↔ (-9223372036854775808 ≤ a * b ∧ a * b ≤ 9223372036854775807)) ∧ (okM a b = true → mulN a b = a * b) := by
  obtain ⟨p, hp⟩ : ∃ p, p = a * b := ⟨_, rfl⟩
  have hpb := mul_bound a b ha hb
  rw [← hp] at hpb
  have wa : IntKind.u64.wrap (a / 9223372036854775808) = if a < 0 then 18446744073709551615 else 0 := by rw [IntKind.wrap_u64]; split <;> omega
  have wb : IntKind.u64.wrap (b / 9223372036854775808) = if b < 0 then 18446744073709551615 else 0 := by rw [IntKind.wrap_u64]; split <;> omega
  have key : ∀ (k k' lo y : Int), lo = p + 18446744073709551616 * k → y = k + 18446744073709551616 * k' → ((IntKind.u64.wrap (lo / 18446744073709551616 - IntKind.u64.wrap y) == IntKind.u64.wrap (wrap64 (lo % 18446744073709551616) / 9223372036854775808)) = true ↔ (-9223372036854775808 ≤ p ∧ p ≤ 9223372036854775807)) ∧ ((IntKind.u64.wrap (lo / 18446744073709551616 - IntKind.u64.wrap y) == IntKind.u64.wrap (wrap64 (lo % 18446744073709551616) / 9223372036854775808)) = true → wrap64 (lo % 18446744073709551616) = p) := fun k k' lo y hlo hy => by
    rw [beq_iff_eq, IntKind.wrap_u64, IntKind.wrap_u64, IntKind.wrap_u64]
    have h := okM_fin p (lo / 18446744073709551616 - y % 18446744073709551616) lo ((lo / 18446744073709551616 - y % 18446744073709551616 - p / 18446744073709551616) / 18446744073709551616) hpb (by
      have e1 : lo / 18446744073709551616 = p / 18446744073709551616 + k := by rw [hlo]; omega
      rw [e1]; omega) (by rw [hlo]; omega)
    exact h
  unfold okM mulN
  rw [u64w a ha, u64w b hb, wa, wb, ← hp]
  by_cases h1 : a < 0 <;> by_cases h2 : b < 0
  · have e : (a + 18446744073709551616) * (b + 18446744073709551616) = p + 18446744073709551616 * (a + b + 18446744073709551616) := by rw [hp, Int.add_mul, Int.mul_add, Int.mul_add]; omega
    simp only [if_pos h1, if_pos h2]
    rw [and_ones _ (by omega : 0 ≤ b + 18446744073709551616) (by omega), and_ones _ (by omega : 0 ≤ a + 18446744073709551616) (by omega)]
    exact key _ 1 _ _ e (by omega)
  · have e : (a + 18446744073709551616) * b = p + 18446744073709551616 * b := by rw [hp, Int.add_mul]
    simp only [if_pos h1, if_neg h2]
    rw [and_ones _ (by omega : 0 ≤ b) (by omega), and_zero' _ (by omega : 0 ≤ a + 18446744073709551616) (by omega)]
    exact key _ 0 _ _ e (by omega)
  · have e : a * (b + 18446744073709551616) = p + 18446744073709551616 * a := by rw [hp, Int.mul_add]; omega
    simp only [if_neg h1, if_pos h2]
    rw [and_zero' _ (by omega : 0 ≤ b + 18446744073709551616) (by omega), and_ones _ (by omega : 0 ≤ a) (by omega)]
    exact key _ 0 _ _ e (by omega)
  · have e : a * b = p + 18446744073709551616 * 0 := by rw [hp]; omega
    simp only [if_neg h1, if_neg h2]
    rw [and_zero' _ (by omega : 0 ≤ b) (by omega), and_zero' _ (by omega : 0 ≤ a) (by omega)]
    exact key _ 0 _ _ e (by omega)
theorem sumP_in {a b : Int} (ha : In64 a) (hb : In64 b) : sumP a b = if -9223372036854775808 ≤ a + b ∧ a + b ≤ 9223372036854775807 then some (a + b) else none := by
  have h := okS_iff a b ha hb
  unfold sumP
  by_cases hc : -9223372036854775808 ≤ a + b ∧ a + b ≤ 9223372036854775807
  · rw [if_pos (h.2 hc), if_pos hc]; congr 1; unfold wrap64; omega
  · rw [if_neg (fun h2 => hc (h.1 h2)), if_neg hc]
theorem diffP_in {a b : Int} (ha : In64 a) (hb : In64 b) : diffP a b = if -9223372036854775808 ≤ a - b ∧ a - b ≤ 9223372036854775807 then some (a - b) else none := by
  have h := okD_iff a b ha hb
  unfold diffP
  by_cases hc : -9223372036854775808 ≤ a - b ∧ a - b ≤ 9223372036854775807
  · rw [if_pos (h.2 hc), if_pos hc]; congr 1; unfold wrap64; omega
  · rw [if_neg (fun h2 => hc (h.1 h2)), if_neg hc]
theorem mulP_in {a b : Int} (ha : In64 a) (hb : In64 b) : mulP a b = if -9223372036854775808 ≤ a * b ∧ a * b ≤ 9223372036854775807 then some (a * b) else none := by
  obtain ⟨h, h2⟩ := okM_iff a b ha hb
  unfold mulP
  by_cases hc : -9223372036854775808 ≤ a * b ∧ a * b ≤ 9223372036854775807
  · rw [if_pos (h.2 hc), if_pos hc, h2 (h.2 hc)]
  · rw [if_neg (fun h3 => hc (h.1 h3)), if_neg hc]
/-- The document's order of two values. -/
def oneV (a b : Vl) : Int :=
  if a.kind < b.kind then -1 else if b.kind < a.kind then 1
  else if a.num < b.num then -1 else if b.num < a.num then 1
  else if Op.bytesLess a.text.toList b.text.toList = true then -1 else if a.text.toList = b.text.toList then 0 else 1
theorem compareBytes_less' (a b : List UInt8) : Lib.compareBytes a b = if Op.bytesLess a b = true then -1 else if a = b then 0 else 1 := by
  induction a generalizing b with
  | nil => cases b <;> simp [Lib.compareBytes, Op.bytesLess]
  | cons x a ih =>
    cases b with
    | nil => simp [Lib.compareBytes, Op.bytesLess]
    | cons y b =>
      simp only [Lib.compareBytes, Op.bytesLess, ih]
      by_cases h1 : x < y
      · simp [h1]
      · by_cases h2 : y < x
        · have h3 : x ≠ y := fun e => h1 (by rw [e] at h2 ⊢; exact h2)
          simp [h1, h2, h3]
        · have e : x = y := by rw [UInt8.lt_iff_toNat_lt] at h1 h2; exact UInt8.toNat_inj.1 (by omega)
          subst e
          simp
theorem oneV_eq {a b : Vl} (h : a.kind = b.kind) : oneV a b = cmpP a b := by
  unfold oneV cmpP Lib.compareInt
  rw [if_neg (by omega), if_neg (by omega)]
  by_cases h1 : a.num < b.num
  · simp [h1]
  · by_cases h2 : b.num < a.num
    · simp [h1, h2]
    · rw [if_neg h1, if_neg h2, if_neg h1, if_neg h2, if_pos rfl, compareBytes_less', ByteArray.toList_eq, ByteArray.toList_eq]
end Go.Proofs.Ytbcmgodpplapaaa
