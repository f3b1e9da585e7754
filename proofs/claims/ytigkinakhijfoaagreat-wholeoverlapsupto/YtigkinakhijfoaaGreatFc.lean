/- Numbers as texts, and their order; what ranges of such texts hold. -/
import Derived.Test.YtigkinakhijfoaaGreatJx
import Derived.Test.YtigkinakhijfoaaGreatJf
import Derived.Test.YtigkinakhijfoaaGreatBl
namespace Go.Proofs.YtigkinakhijfoaaGreat
set_option linter.unusedVariables false
set_option linter.unusedSimpArgs false

/-- A number's lowest bytes, the highest of them first. -/
def numB (n : Nat) : Nat → List UInt8
  | 0 => []
  | k + 1 => numB (n / 256) k ++ [UInt8.ofNat n]
theorem length_numB (n k : Nat) : (numB n k).length = k := by
  induction k generalizing n with
  | zero => rfl
  | succ k ih => simp [numB, ih]
theorem numB_cons (x m : Nat) : numB x (m + 1) = UInt8.ofNat (x / 256 ^ m) :: numB x m := by
  induction m generalizing x with
  | zero => simp [numB]
  | succ m ih =>
    rw [numB, ih, numB, Nat.div_div_eq_div_mul, Nat.pow_succ, Nat.mul_comm 256]
    rfl
theorem less_numB (n m k : Nat) : Op.bytesLess (numB n k) (numB m k) = decide (n % 256 ^ k < m % 256 ^ k) := by
  induction k with
  | zero => simp [numB, Op.bytesLess, Nat.mod_one]
  | succ k ih =>
    rw [numB_cons, numB_cons, Op.bytesLess, ih, Nat.pow_succ, Nat.mod_mul, Nat.mod_mul]
    have hp : 0 < 256 ^ k := Nat.pow_pos (by omega)
    have h1 : n % 256 ^ k < 256 ^ k := Nat.mod_lt _ hp
    have h2 : m % 256 ^ k < 256 ^ k := Nat.mod_lt _ hp
    have e1 : (UInt8.ofNat (n / 256 ^ k) < UInt8.ofNat (m / 256 ^ k)) ↔ n / 256 ^ k % 256 < m / 256 ^ k % 256 := by
      rw [UInt8.lt_iff_toNat_lt]; simp
    have e2 : (UInt8.ofNat (n / 256 ^ k) = UInt8.ofNat (m / 256 ^ k)) ↔ n / 256 ^ k % 256 = m / 256 ^ k % 256 := by
      rw [← UInt8.toNat_inj]; simp
    generalize n / 256 ^ k % 256 = p at *
    generalize m / 256 ^ k % 256 = q at *
    generalize n % 256 ^ k = r at *
    generalize m % 256 ^ k = t at *
    generalize 256 ^ k = B at *
    rw [Bool.eq_iff_iff]
    simp only [Bool.or_eq_true, decide_eq_true_eq, Bool.and_eq_true, beq_iff_eq, e1, e2]
    constructor
    · rintro (h | ⟨h, h3⟩)
      · have : B * p + B ≤ B * q := by rw [← Nat.mul_succ]; exact Nat.mul_le_mul_left _ h
        omega
      · subst h; omega
    · intro h
      rcases Nat.lt_trichotomy p q with h3 | h3 | h3
      · exact .inl h3
      · subst h3; exact .inr ⟨rfl, by omega⟩
      · have : B * q + B ≤ B * p := by rw [← Nat.mul_succ]; exact Nat.mul_le_mul_left _ h3
        omega
theorem less_eight (n m : Nat) (hn : n < 18446744073709551616) (hm : m < 18446744073709551616) : Op.bytesLess (numB n 8) (numB m 8) = decide (n < m) := by
  rw [less_numB, Nat.mod_eq_of_lt (by omega), Nat.mod_eq_of_lt (by omega)]

theorem compare_append (p q r s : List UInt8) (h : p.length = q.length) : Lib.compareBytes (p ++ r) (q ++ s) = if Lib.compareBytes p q = 0 then Lib.compareBytes r s else Lib.compareBytes p q := by
  induction p generalizing q with
  | nil =>
    cases q with
    | nil => simp [Lib.compareBytes]
    | cons y q => simp at h
  | cons x p ih =>
    cases q with
    | nil => simp at h
    | cons y q =>
      simp only [List.cons_append, Lib.compareBytes]
      split
      · simp
      · split
        · simp
        · exact ih q (by simpa using h)
theorem compare_nums (n m : Nat) (hn : n < 18446744073709551616) (hm : m < 18446744073709551616) : Lib.compareBytes (numB n 8) (numB m 8) = cmpI (n : Int) (m : Int) := by
  rw [compareBytes_less, less_eight n m hn hm]
  by_cases h1 : n < m
  · have e : cmpI (n : Int) (m : Int) = -1 := by unfold cmpI; rw [if_pos (by omega)]
    rw [e, if_pos (by simp [h1])]
  · rw [if_neg (by simp [h1])]
    by_cases h2 : n = m
    · subst h2
      have e : cmpI (n : Int) (n : Int) = 0 := by unfold cmpI; rw [if_neg (by omega), if_neg (by omega)]
      rw [e, if_pos rfl]
    · have e : cmpI (n : Int) (m : Int) = 1 := by unfold cmpI; rw [if_neg (by omega), if_pos (by omega)]
      rw [e, if_neg]
      intro h
      have h3 := less_eight m n hm hn
      have h4 := less_eight n n hn hn
      rw [← h, h4] at h3
      simp at h3
      omega
/-- A number of 64 bits as one without a sign. -/
def u64 (n : Int) : Nat := (n % 18446744073709551616).toNat
theorem u64_lt (n : Int) : u64 n < 18446744073709551616 := by unfold u64; omega
def txtL (L : List Int) : List UInt8 := L.flatMap (fun n => numB (u64 n) 8)
/-- Numbers as a text. -/
def txt (L : List Int) : ByteArray := ⟨(txtL L).toArray⟩
theorem txtL_cons (n : Int) (L : List Int) : txtL (n :: L) = numB (u64 n) 8 ++ txtL L := rfl
theorem kc_txt (A B : List Int) : kc (txt A) (txt B) = Lib.compareBytes (txtL A) (txtL B) := rfl
theorem kc_cons (a b : Int) (A B : List Int) : kc (txt (a :: A)) (txt (b :: B)) = if u64 a = u64 b then kc (txt A) (txt B) else cmpI (u64 a) (u64 b) := by
  rw [kc_txt, txtL_cons, txtL_cons, compare_append _ _ _ _ (by rw [length_numB, length_numB]), compare_nums _ _ (u64_lt a) (u64_lt b), kc_txt]
  have h : cmpI (u64 a : Int) (u64 b : Int) = 0 ↔ u64 a = u64 b := by
    unfold cmpI
    split
    · constructor <;> intro h <;> omega
    · split
      · constructor <;> intro h <;> omega
      · constructor <;> intro h <;> omega
  by_cases e : u64 a = u64 b
  · rw [if_pos (h.2 e), if_pos e]
  · rw [if_neg (fun x => e (h.1 x)), if_neg e]
theorem kc_more (a : Int) (A : List Int) : kc (txt (a :: A)) (txt []) = 1 := by
  rw [kc_txt, txtL_cons]
  have h := length_numB (u64 a) 8
  revert h
  cases numB (u64 a) 8 with
  | nil => intro h; simp at h
  | cons x l => intro _; rfl
theorem txt_full (a : Int) (A : List Int) : (txt (a :: A)).data.toList.isEmpty = false := by
  show (txtL (a :: A)).toArray.toList.isEmpty = false
  rw [List.toList_toArray, txtL_cons]
  have h := length_numB (u64 a) 8
  revert h
  cases numB (u64 a) 8 with
  | nil => intro h; simp at h
  | cons x l => intro _; rfl
theorem u64_inj {a b : Int} (ha : -9223372036854775808 ≤ a ∧ a < 9223372036854775808) (hb : -9223372036854775808 ≤ b ∧ b < 9223372036854775808) (h : u64 a = u64 b) : a = b := by
  unfold u64 at h; omega
theorem txt3_inj {a b c a' b' c' : Int} (h : txt [a, b, c] = txt [a', b', c']) : u64 a = u64 a' ∧ u64 b = u64 b' ∧ u64 c = u64 c' := by
  have h := kc_zero.2 h
  have g : ∀ x y : Int, cmpI (u64 x) (u64 y) = 0 → u64 x = u64 y := fun x y h => by
    unfold cmpI at h
    split at h
    · omega
    · split at h <;> omega
  rw [kc_cons] at h
  split at h
  · rename_i h1
    rw [kc_cons] at h
    split at h
    · rename_i h2
      rw [kc_cons] at h
      split at h
      · rename_i h3; exact ⟨h1, h2, h3⟩
      · exact ⟨h1, h2, g _ _ h⟩
    · exact (absurd (g _ _ h) (by assumption))
  · exact (absurd (g _ _ h) (by assumption))

/-- A period with its number. -/
structure Itm where
  id : Int
  lo : Int
  hi : Int
/-- What is known of one: it is a period, its number has 64 bits. -/
def Itm.Ok (p : Itm) : Prop := 0 ≤ p.lo ∧ p.lo < p.hi ∧ p.hi ≤ 1099511627776 ∧ -9223372036854775808 ≤ p.id ∧ p.id < 9223372036854775808
/-- Its node. -/
def nd (p : Itm) : Int := (forkN p.lo.toNat p.hi.toNat : Int)
theorem nd_in {p : Itm} (h : p.Ok) : p.lo ≤ nd p ∧ nd p < p.hi := by
  obtain ⟨h1, h2, h3, _⟩ := h
  have := fork_has (f := p.lo.toNat) (t := p.hi.toNat) (by omega)
  unfold nd
  omega
def keyF (p : Itm) : ByteArray := txt [nd p, p.lo, p.id]
def keyT (p : Itm) : ByteArray := txt [nd p, p.hi, p.id]
/-- Within a range of texts. -/
def inR (fr to k : ByteArray) : Bool := decide (0 ≤ kc k fr) && upto to k
theorem ge_one {n h i m : Int} : 0 ≤ kc (txt [n, h, i]) (txt [m]) ↔ u64 m ≤ u64 n := by
  rw [kc_cons]
  split
  · rw [kc_more]; constructor <;> intro _ <;> omega
  · unfold cmpI
    split
    · constructor <;> intro _ <;> omega
    · split <;> (constructor <;> intro _ <;> omega)
theorem lt_one {n h i m : Int} : kc (txt [n, h, i]) (txt [m]) < 0 ↔ u64 n < u64 m := by
  rw [kc_cons]
  split
  · rw [kc_more]; constructor <;> intro _ <;> omega
  · unfold cmpI
    split
    · constructor <;> intro _ <;> omega
    · split <;> (constructor <;> intro _ <;> omega)
theorem ge_two {n h i m a : Int} : 0 ≤ kc (txt [n, h, i]) (txt [m, a]) ↔ u64 m < u64 n ∨ (u64 n = u64 m ∧ u64 a ≤ u64 h) := by
  rw [kc_cons]
  split
  · rw [kc_cons]
    split
    · rw [kc_more]; constructor <;> intro _ <;> omega
    · unfold cmpI
      split
      · constructor <;> intro _ <;> omega
      · split <;> (constructor <;> intro _ <;> omega)
  · unfold cmpI
    split
    · constructor <;> intro _ <;> omega
    · split <;> (constructor <;> intro _ <;> omega)
theorem lt_two {n h i m a : Int} : kc (txt [n, h, i]) (txt [m, a]) < 0 ↔ u64 n < u64 m ∨ (u64 n = u64 m ∧ u64 h < u64 a) := by
  have h1 := ge_two (n := n) (h := h) (i := i) (m := m) (a := a)
  constructor
  · intro h2
    have : ¬ (u64 m < u64 n ∨ (u64 n = u64 m ∧ u64 a ≤ u64 h)) := fun h3 => by have := h1.2 h3; omega
    omega
  · intro h2
    have : ¬ (0 ≤ kc (txt [n, h, i]) (txt [m, a])) := fun h3 => by have := h1.1 h3; omega
    omega
theorem upto_cons {b : Int} {B : List Int} {k : ByteArray} : upto (txt (b :: B)) k = decide (kc k (txt (b :: B)) < 0) := by
  unfold upto
  rw [txt_full]
  rfl
theorem inR_left {p : Itm} (hp : p.Ok) {m a : Int} (hm : 0 ≤ m ∧ m ≤ 1099511627776) (ha : 0 ≤ a ∧ a ≤ 1099511627776) : inR (txt [m, a + 1]) (txt [m + 1]) (keyT p) = true ↔ nd p = m ∧ a < p.hi := by
  have hd := nd_in hp
  obtain ⟨h1, h2, h3, _⟩ := hp
  unfold inR keyT
  rw [upto_cons, Bool.and_eq_true, decide_eq_true_eq, decide_eq_true_eq, ge_two, lt_one]
  unfold u64
  omega
theorem inR_mid {p : Itm} (hp : p.Ok) {a b : Int} (ha : 0 ≤ a ∧ a ≤ 1099511627776) (hb : 0 ≤ b ∧ b ≤ 1099511627776) : inR (txt [a]) (txt [b]) (keyF p) = true ↔ a ≤ nd p ∧ nd p < b := by
  have hd := nd_in hp
  obtain ⟨h1, h2, h3, _⟩ := hp
  unfold inR keyF
  rw [upto_cons, Bool.and_eq_true, decide_eq_true_eq, decide_eq_true_eq, ge_one, lt_one]
  unfold u64
  omega
theorem inR_right {p : Itm} (hp : p.Ok) {m b : Int} (hm : 0 ≤ m ∧ m ≤ 1099511627776) (hb : 0 ≤ b ∧ b ≤ 1099511627776) : inR (txt [m]) (txt [m, b]) (keyF p) = true ↔ nd p = m ∧ p.lo < b := by
  have hd := nd_in hp
  obtain ⟨h1, h2, h3, _⟩ := hp
  unfold inR keyF
  rw [upto_cons, Bool.and_eq_true, decide_eq_true_eq, decide_eq_true_eq, ge_one, lt_two]
  unfold u64
  omega
end Go.Proofs.YtigkinakhijfoaaGreat
