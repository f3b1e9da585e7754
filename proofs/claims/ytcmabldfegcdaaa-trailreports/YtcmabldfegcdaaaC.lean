/- The walks of stir, Sum and Get. -/
import Derived.Test.YtcmabldfegcdaaaB
namespace Go.Proofs.Ytcmabldfegcdaaa
open Go.RowKit
set_option maxRecDepth 100000
theorem or_byte (g : Nat) (u : UInt8) : bits .or .u64 (IntKind.u64.wrap ((g : Int) * 256)) (u.toNat : Int) = (((g * 256 + u.toNat) % 18446744073709551616 : Nat) : Int) := by
  have hu : u.toNat < 256 := u.toNat_lt
  have h1 : IntKind.u64.wrap ((g : Int) * 256) = (((g % 72057594037927936) * 256 : Nat) : Int) := by rw [IntKind.wrap_u64]; omega
  rw [h1, u64_or_nat _ _ (by omega) (by omega)]
  have h2 := Nat.shiftLeft_add_eq_or_of_lt (i := 8) (b := u.toNat) (by omega) (g % 72057594037927936)
  rw [Nat.shiftLeft_eq, show 2 ^ 8 = 256 by rfl] at h2
  rw [← h2]
  congr 1
  omega

set_option maxHeartbeats 1000000 in
theorem get_any (a : Option Addr) (n c : Nat) (l : List UInt8) (w : World) (hb : BI w a n l) (hn : n ≤ 140737488355328) :
    Calls Try.prog 42 #[.slice a n c] w fun e w' => e = .returned (.int .u64 (getB l)) ∧ w' = w := by
  have HB := hide hb
  clear hb
  go_enter Try.func42, Try.ntmps42
  go_wp2
  go_loopw [3, 8] (fun v i wr => ∃ k : Nat, k ≤ n ∧ i = .int .i64 k ∧ v = .int .u64 (getB (l.take k)) ∧ wr = w) (fun _ i _ => n - (intOf i).toNat)
  case atStart => exact ⟨0, by omega, rfl, rfl, rfl⟩
  case round =>
    obtain ⟨k, hk, rfl, rfl, rfl⟩ := hrel
    have hlt := getB_lt (l.take k)
    by_cases hkn : k < n
    · obtain ⟨g2, off2, u, rfl, hu, hcell⟩ := HB.out.get (Fr.refl _ _) k hkn
      have hul : u.toNat < 256 := u.toNat_lt
      have e1 := or_byte (getB (l.take k)) u
      have e2 : getB (l.take (k + 1)) = (getB (l.take k) * 256 + u.toNat) % 18446744073709551616 := by
        rw [List.take_add_one, hu, Option.toList_some, getB_snoc]
      have E2 := hide e2
      clear e2
      go_wp2
      go_roundw
      case rel => exact ⟨k + 1, by omega, by go_num, by rw [E2.out]; congr 1, trivial⟩
      case measure => simp [intOf]; omega
    · obtain rfl : k = n := by omega
      go_wp2
      go_ret
      exact ⟨by rw [← HB.out.1, List.take_length]; rfl, rfl⟩
end Go.Proofs.Ytcmabldfegcdaaa
