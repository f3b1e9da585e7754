/- The walks of stir, Sum and Get. -/
import Derived.Test.YtiicgfipmdgnhaaQB
namespace Go.Proofs.Ytiicgfipmdgnhaa
open Go.RowKit
set_option maxRecDepth 100000

theorem odd_bit (n : Nat) (h : n < 4294967296) : bits .and .u32 (n : Int) 1 = ((n % 2 : Nat) : Int) := by
  have := u32_and_nat n 1 h (by omega)
  rw [Nat.and_one_is_mod] at this
  exact this
theorem odd_xor (n : Nat) (h : n < 4294967296) : bits .xor .u32 ((n : Int) / 2) 3988292384 = (((n / 2) ^^^ 3988292384 : Nat) : Int) :=
  u32_xor_nat (n / 2) 3988292384 (by omega) (by omega)

theorem ones_xor (x : Nat) (h : x < 4294967296) : 4294967295 ^^^ x = 4294967295 - x := by
  have h1 := congrArg BitVec.toNat (BitVec.allOnes_xor (x := BitVec.ofNat 32 x))
  rw [BitVec.toNat_xor, BitVec.toNat_not, BitVec.toNat_allOnes, BitVec.toNat_ofNat, Nat.mod_eq_of_lt (by omega)] at h1
  exact h1
theorem not_crc (l : List UInt8) : bits .xor .u32 IntKind.u32.max (crcFrom 4294967295 l : Int) = (crc l : Int) := by
  have h := crcFrom_lt l 4294967295 (by omega)
  have h1 := u32_xor_nat 4294967295 (crcFrom 4294967295 l) (by omega) h
  rw [ones_xor _ h] at h1
  exact h1

/-- A slice of slices of bytes. -/
def Parts (w : World) (a : Option Addr) (L : List (List UInt8)) : Prop :=
  L = [] ∨ ∃ g off, a = some ⟨g, off, none⟩ ∧ ∀ j l, L[j]? = some l → ∃ x n c, w.cell? ⟨g, off + j, none⟩ = some (.slice x n c) ∧ BI w x n l ∧ n ≤ 140737488355328

theorem xor_byte (s : Nat) (hs : s < 4294967296) (b : UInt8) : bits .xor .u32 (s : Int) (b.toNat : Int) = ((s ^^^ b.toNat : Nat) : Int) :=
  u32_xor_nat s b.toNat hs (by have := b.toNat_lt; omega)

theorem or_byte (g : Nat) (u : UInt8) : bits .or .u64 (IntKind.u64.wrap ((g : Int) * 256)) (u.toNat : Int) = (((g * 256 + u.toNat) % 18446744073709551616 : Nat) : Int) := by
  have hu : u.toNat < 256 := u.toNat_lt
  have h1 : IntKind.u64.wrap ((g : Int) * 256) = (((g % 72057594037927936) * 256 : Nat) : Int) := by rw [IntKind.wrap_u64]; omega
  rw [h1, u64_or_nat _ _ (by omega) (by omega)]
  have h2 := Nat.shiftLeft_add_eq_or_of_lt (i := 8) (b := u.toNat) (by omega) (g % 72057594037927936)
  rw [Nat.shiftLeft_eq, show 2 ^ 8 = 256 by rfl] at h2
  rw [← h2]
  congr 1
  omega

set_option maxHeartbeats 1000000 in
theorem cget_any (a : Option Addr) (n c : Nat) (l : List UInt8) (w : World) (hb : BI w a n l) (hn : n ≤ 140737488355328) :
    Calls Try.prog 54 #[.slice a n c] w fun e w' => e = .returned (.int .u64 (getB l)) ∧ w' = w := by
  have HB := hide hb
  clear hb
  go_enter Try.func54, Try.ntmps54
  go_wp2
  go_loopw [3, 8] (fun v i wr => ∃ k : Nat, k ≤ n ∧ i = .int .i64 k ∧ v = .int .u64 (getB (l.take k)) ∧ wr = w) (fun _ i _ => n - (intOf i).toNat)
  case atStart => exact ⟨0, by omega, rfl, rfl, rfl⟩
  case round =>
    obtain ⟨k, hk, rfl, rfl, rfl⟩ := hrel
    have hlt := getB_lt (l.take k)
    by_cases hkn : k < n
    · obtain ⟨g2, off2, u, rfl, hu, hcell⟩ := HB.out.get (Fr.refl _ _) k hkn
      have hul : u.toNat < 256 := u.toNat_lt
      have e1 := or_byte (getB (l.take k)) u
      have e2 : getB (l.take (k + 1)) = (getB (l.take k) * 256 + u.toNat) % 18446744073709551616 := by
        rw [List.take_add_one, hu, Option.toList_some, getB_snoc]
      have E2 := hide e2
      clear e2
      go_wp2
      go_roundw
      case rel => exact ⟨k + 1, by omega, by go_num, by rw [E2.out]; congr 1, trivial⟩
      case measure => simp [intOf]; omega
    · obtain rfl : k = n := by omega
      go_wp2
      go_ret
      exact ⟨by rw [← HB.out.1, List.take_length]; rfl, rfl⟩
end Go.Proofs.Ytiicgfipmdgnhaa
