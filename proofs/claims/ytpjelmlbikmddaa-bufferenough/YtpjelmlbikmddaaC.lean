/- The walks of stir, Sum and Get. -/
import Derived.Test.YtpjelmlbikmddaaB
namespace Go.Proofs.Ytpjelmlbikmddaa
open Go.RowKit

theorem odd_bit (n : Nat) (h : n < 4294967296) : bits .and .u32 (n : Int) 1 = ((n % 2 : Nat) : Int) := by
  have := u32_and_nat n 1 h (by omega)
  rw [Nat.and_one_is_mod] at this
  exact this
theorem odd_xor (n : Nat) (h : n < 4294967296) : bits .xor .u32 ((n : Int) / 2) 3988292384 = (((n / 2) ^^^ 3988292384 : Nat) : Int) :=
  u32_xor_nat (n / 2) 3988292384 (by omega) (by omega)

set_option maxHeartbeats 1000000 in
theorem stir_any (s : Nat) (hs : s < 4294967296) (w : World) :
    Calls Try.prog 82 #[.int .u32 s] w fun e w' => e = .returned (.int .u32 (stirN 8 s)) ∧ w' = w := by
  go_enter Try.func82, Try.ntmps82
  go_wp2
  go_loopw [0, 4] (fun v i wr => ∃ k : Nat, k ≤ 8 ∧ i = .int .i64 k ∧ v = .int .u32 (stirN k s) ∧ wr = w) (fun _ i _ => 8 - (intOf i).toNat)
  case atStart => exact ⟨0, by omega, rfl, rfl, rfl⟩
  case round =>
    obtain ⟨k, hk, rfl, rfl, rfl⟩ := hrel
    have hlt := stirN_lt k s hs
    by_cases hlt8 : k < 8
    · by_cases hodd : stirN k s % 2 = 1
      · have e1 : (bits .and .u32 (stirN k s : Int) 1 == 1) = true := by rw [odd_bit _ hlt, hodd]; rfl
        have e2 := odd_xor _ hlt
        go_wp2
        go_roundw
        case rel => exact ⟨k + 1, by omega, by go_num, by rw [stirN_succ, stir1, if_pos hodd], trivial⟩
        case measure => simp [intOf]; omega
      · have e1 : (bits .and .u32 (stirN k s : Int) 1 == 1) = false := by
          rw [odd_bit _ hlt, show stirN k s % 2 = 0 by omega]; rfl
        go_wp2
        go_roundw
        case rel => exact ⟨k + 1, by omega, by go_num, by rw [stirN_succ, stir1, if_neg hodd]; rfl, trivial⟩
        case measure => simp [intOf]; omega
    · obtain rfl : k = 8 := by omega
      go_wp2
      go_ret
      exact ⟨rfl, rfl⟩

theorem ones_xor (x : Nat) (h : x < 4294967296) : 4294967295 ^^^ x = 4294967295 - x := by
  have h1 := congrArg BitVec.toNat (BitVec.allOnes_xor (x := BitVec.ofNat 32 x))
  rw [BitVec.toNat_xor, BitVec.toNat_not, BitVec.toNat_allOnes, BitVec.toNat_ofNat, Nat.mod_eq_of_lt (by omega)] at h1
  exact h1
theorem not_crc (l : List UInt8) : bits .xor .u32 IntKind.u32.max (crcFrom 4294967295 l : Int) = (crc l : Int) := by
  have h := crcFrom_lt l 4294967295 (by omega)
  have h1 := u32_xor_nat 4294967295 (crcFrom 4294967295 l) (by omega) h
  rw [ones_xor _ h] at h1
  exact h1

/-- A slice of slices of bytes. -/
def Parts (w : World) (a : Option Addr) (L : List (List UInt8)) : Prop :=
  L = [] ∨ ∃ g off, a = some ⟨g, off, none⟩ ∧ ∀ j l, L[j]? = some l → ∃ x n c, w.cell? ⟨g, off + j, none⟩ = some (.slice x n c) ∧ BI w x n l ∧ n ≤ 140737488355328

theorem xor_byte (s : Nat) (hs : s < 4294967296) (b : UInt8) : bits .xor .u32 (s : Int) (b.toNat : Int) = ((s ^^^ b.toNat : Nat) : Int) :=
  u32_xor_nat s b.toNat hs (by have := b.toNat_lt; omega)

set_option maxHeartbeats 2000000 in
theorem sum_any (a : Option Addr) (c : Nat) (L : List (List UInt8)) (w : World) (hp : Parts w a L) (hL : L.length ≤ 140737488355328) :
    Calls Try.prog 75 #[.slice a L.length c] w fun e w' => e = .returned (.int .u32 (crc L.flatten)) ∧ w' = w := by
  have HP := hide hp
  clear hp
  go_enter Try.func75, Try.ntmps75
  go_wp2
  go_loopw [3, 10] (fun v i wr => ∃ k : Nat, k ≤ L.length ∧ i = .int .i64 k ∧ v = .int .u32 (crcFrom 4294967295 (L.take k).flatten) ∧ wr = w) (fun _ i _ => L.length - (intOf i).toNat)
  case atStart => exact ⟨0, by omega, rfl, rfl, rfl⟩
  case round =>
    obtain ⟨k, hk, rfl, rfl, rfl⟩ := hrel
    by_cases hlt : k < L.length
    · obtain ⟨g, off, rfl, hc⟩ := HP.out.resolve_left (by rintro rfl; simp at hlt)
      obtain ⟨x, n, c1, hx, hb, hn⟩ := hc k _ (List.getElem?_eq_getElem hlt)
      have HB := hide hb
      clear hc hb
      obtain ⟨l, hl⟩ : ∃ l, l = L[k] := ⟨_, rfl⟩
      rw [← hl] at HB
      have HL := hide hl
      clear hl
      obtain ⟨s0, hs0⟩ : ∃ s0, s0 = crcFrom 4294967295 (L.take k).flatten := ⟨_, rfl⟩
      have hs0l : s0 < 4294967296 := by rw [hs0]; exact crcFrom_lt _ _ (by omega)
      rw [← hs0]
      have HS0 := hide hs0
      clear hs0
      go_wp2
      go_loopw [3, 16] (fun v i wr2 => ∃ m : Nat, m ≤ n ∧ i = .int .i64 m ∧ v = .int .u32 (crcFrom s0 (l.take m)) ∧ wr2 = wr) (fun _ i _ => n - (intOf i).toNat)
      case atStart => exact ⟨0, by omega, rfl, rfl, rfl⟩
      case round =>
        obtain ⟨m, hm, rfl, rfl, rfl⟩ := hrel
        have hlt2 := crcFrom_lt (l.take m) s0 hs0l
        by_cases hmn : m < n
        · obtain ⟨g2, off2, u, rfl, hu, hcell⟩ := HB.out.get (Fr.refl _ _) m hmn
          have e1 := xor_byte _ hlt2 u
          have hul : u.toNat < 256 := u.toNat_lt
          have e2 : crcFrom s0 (l.take (m + 1)) = stirN 8 (crcFrom s0 (l.take m) ^^^ u.toNat) := by
            rw [List.take_add_one, hu, Option.toList_some, crcFrom_snoc]
          have E2 := hide e2
          clear e2
          go_wp2_with (go_at_call 82; refine (stir_any _ (xor_byte_lt _ u hlt2) _).mono ?_; rintro e w' ⟨rfl, rfl⟩)
          go_roundw
          case rel => exact ⟨m + 1, by omega, by go_num, by rw [E2.out], trivial⟩
          case measure => simp [intOf]; omega
        · obtain rfl : m = n := by omega
          have e3 : crcFrom s0 (l.take m) = crcFrom 4294967295 (L.take (k + 1)).flatten := by
            rw [← HB.out.1, List.take_length, List.take_add_one, List.getElem?_eq_getElem hlt, Option.toList_some, List.flatten_append, crcFrom_append, ← HS0.out, HL.out]
            simp
          have E3 := hide e3
          clear e3
          go_wp2
          go_roundw
          case rel => exact ⟨k + 1, by omega, by go_num, by rw [E3.out], trivial⟩
          case measure => simp [intOf]; omega
    · obtain rfl : k = L.length := by omega
      have e4 := not_crc L.flatten
      go_wp2
      go_ret
      exact ⟨by rw [← e4]; rfl, rfl⟩

theorem or_byte (g : Nat) (u : UInt8) : bits .or .u64 (IntKind.u64.wrap ((g : Int) * 256)) (u.toNat : Int) = (((g * 256 + u.toNat) % 18446744073709551616 : Nat) : Int) := by
  have hu : u.toNat < 256 := u.toNat_lt
  have h1 : IntKind.u64.wrap ((g : Int) * 256) = (((g % 72057594037927936) * 256 : Nat) : Int) := by rw [IntKind.wrap_u64]; omega
  rw [h1, u64_or_nat _ _ (by omega) (by omega)]
  have h2 := Nat.shiftLeft_add_eq_or_of_lt (i := 8) (b := u.toNat) (by omega) (g % 72057594037927936)
  rw [Nat.shiftLeft_eq, show 2 ^ 8 = 256 by rfl] at h2
  rw [← h2]
  congr 1
  omega

set_option maxHeartbeats 1000000 in
theorem get_any (a : Option Addr) (n c : Nat) (l : List UInt8) (w : World) (hb : BI w a n l) (hn : n ≤ 140737488355328) :
    Calls Try.prog 63 #[.slice a n c] w fun e w' => e = .returned (.int .u64 (getB l)) ∧ w' = w := by
  have HB := hide hb
  clear hb
  go_enter Try.func63, Try.ntmps63
  go_wp2
  go_loopw [3, 8] (fun v i wr => ∃ k : Nat, k ≤ n ∧ i = .int .i64 k ∧ v = .int .u64 (getB (l.take k)) ∧ wr = w) (fun _ i _ => n - (intOf i).toNat)
  case atStart => exact ⟨0, by omega, rfl, rfl, rfl⟩
  case round =>
    obtain ⟨k, hk, rfl, rfl, rfl⟩ := hrel
    have hlt := getB_lt (l.take k)
    by_cases hkn : k < n
    · obtain ⟨g2, off2, u, rfl, hu, hcell⟩ := HB.out.get (Fr.refl _ _) k hkn
      have hul : u.toNat < 256 := u.toNat_lt
      have e1 := or_byte (getB (l.take k)) u
      have e2 : getB (l.take (k + 1)) = (getB (l.take k) * 256 + u.toNat) % 18446744073709551616 := by
        rw [List.take_add_one, hu, Option.toList_some, getB_snoc]
      have E2 := hide e2
      clear e2
      go_wp2
      go_roundw
      case rel => exact ⟨k + 1, by omega, by go_num, by rw [E2.out]; congr 1, trivial⟩
      case measure => simp [intOf]; omega
    · obtain rfl : k = n := by omega
      go_wp2
      go_ret
      exact ⟨by rw [← HB.out.1, List.take_length]; rfl, rfl⟩
end Go.Proofs.Ytpjelmlbikmddaa
