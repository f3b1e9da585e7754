/- The walks of push and Put. -/
import Derived.Test.YtiicgfipmdgnhaaQC
namespace Go.Proofs.Ytiicgfipmdgnhaa
open Go.RowKit
set_option maxRecDepth 100000

theorem numB_snoc (n k i : Nat) : numB (n / 256 ^ (i + 1)) k ++ [UInt8.ofNat (n / 256 ^ i)] = numB (n / 256 ^ i) (k + 1) := by
  rw [numB, Nat.div_div_eq_div_mul, Nat.pow_succ]

theorem push_cell (n m : Nat) : #[Value.int .u8 ((n : Int) / 2 ^ (8 * (m - 1)) % 256)] = (enc [UInt8.ofNat (n / 256 ^ (m - 1))]).toArray := by
  have h : (256 : Nat) ^ (m - 1) = 2 ^ (8 * (m - 1)) := by rw [Nat.pow_mul]
  simp only [enc, byt, List.map_cons, List.map_nil, UInt8.toNat_ofNat', h]
  congr 3
theorem Fresh.trans {w w1 : World} {v x y : Value} (h : Fresh w v x) (hs : w.heap.size ≤ w1.heap.size) (h2 : Fresh w1 x y) : Fresh w v y := by
  rcases h2 with h2 | ⟨k, h2, h3⟩
  · rcases h with h | ⟨k, h, h3⟩
    · exact .inl (h2.trans h)
    · exact .inr ⟨k, h2.trans h, h3⟩
  · exact .inr ⟨k, h2, by omega⟩

set_option maxHeartbeats 1000000 in
theorem push_any (v : Value) (l : List UInt8) (n k : Nat) (hk : k ≤ 8) (w : World) (hown : OwnB w v l) (hlen : l.length + 8 ≤ 140737488355328) :
    Calls Try.prog 35 #[v, .int .u64 n, .int .i64 k] w fun e w' => ∃ v', e = .returned v' ∧ OwnB w' v' (l ++ numB n k) ∧ Fr w w' (fun q => v.ownBlock = some q) ∧ Fresh w v v' := by
  have HO := hide hown
  clear hown
  go_enter Try.func35, Try.ntmps35
  go_wp2
  go_loopw [0, 7] (fun x i wr => ∃ m : Nat, m ≤ k ∧ i = .int .i64 ((m : Int) - 1) ∧ OwnB wr x (l ++ numB (n / 256 ^ m) (k - m)) ∧ Fr w wr (fun q => v.ownBlock = some q) ∧ Fresh w v x) (fun _ i _ => (intOf i + 1).toNat)
  case atStart => exact ⟨k, by omega, rfl, by rw [Nat.sub_self]; simpa [numB] using HO.out, Fr.refl _ _, .inl rfl⟩
  case round =>
    rename World => w7
    obtain ⟨m, hm, rfl, ho, hf, hfr⟩ := hrel
    have HO1 := hide ho
    have HF1 := hide hf
    have HR1 := hide hfr
    clear ho hf hfr
    by_cases hm0 : 1 ≤ m
    · have HLE := hide (by rw [List.length_append, length_numB]; omega : (l ++ numB (n / 256 ^ m) (k - m)).length + 1 ≤ 140737488355328)
      have hm8 : m ≤ 8 := by omega
      go_wp2_with (refine wpList_push rfl (.tmp 14) (.tmp 20) rfl u0 _ rfl HO1.out _ 1 [UInt8.ofNat (n / 256 ^ (m - 1))] (push_cell n m) rfl _ rfl rfl HLE.out ?_; intro v1 w1 ho1 hf1 hr1; have HO2 := hide ho1; have HF2 := hide hf1; have HR2 := hide hr1; clear ho1 hf1 hr1)
      go_roundw
      case rel =>
        refine ⟨m - 1, by omega, by go_num, ?_, ?_, ?_⟩
        · have h1 := HO2.out
          have h2 := numB_snoc n (k - m) (m - 1)
          rw [show m - 1 + 1 = m by omega, show k - m + 1 = k - (m - 1) by omega] at h2
          rw [List.append_assoc, h2] at h1
          exact h1
        · refine (HF1.out.trans HF2.out).mono ?_
          rintro q hq (h1 | h1)
          · exact h1
          · rcases HR1.out with h2 | ⟨k2, h2, h3⟩
            · rw [← h2]; exact h1
            · rw [h2] at h1; injection h1; omega
        · exact HR1.out.trans HF1.out.size HR2.out
      case measure => simp [intOf]; omega
    · obtain rfl : m = 0 := by omega
      go_wp2
      go_ret
      refine ⟨_, rfl, ?_, HF1.out, HR1.out⟩
      have h1 := HO1.out
      rw [Nat.pow_zero, Nat.div_one, Nat.sub_zero] at h1
      exact h1
end Go.Proofs.Ytiicgfipmdgnhaa
