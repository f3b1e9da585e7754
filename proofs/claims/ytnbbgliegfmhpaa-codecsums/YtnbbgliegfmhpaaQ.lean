/- The document's numbers. -/
import Derived.Test.YtnbbgliegfmhpaaN
namespace Go.Proofs.Ytnbbgliegfmhpaa
open Go.RowKit

theorem numB_cons (x m : Nat) : numB x (m + 1) = UInt8.ofNat (x / 256 ^ m) :: numB x m := by
  induction m generalizing x with
  | zero => simp [numB]
  | succ m ih =>
    rw [numB, ih, numB, Nat.div_div_eq_div_mul, Nat.pow_succ, Nat.mul_comm 256]
    rfl
theorem strOf_append (a b : List UInt8) : strOf a ++ strOf b = strOf (a ++ b) := by
  apply ByteArray.ext
  simp [strOf]

theorem bi_byte (w : World) (y : Nat) : BI (w.alloc (.cells #[.int .u8 ((y : Int) % 256)] 5)) (some ⟨w.heap.size, 0, none⟩) 1 [UInt8.ofNat y] := by
  have h := heap_alloc_new w (.cells #[.int .u8 ((y : Int) % 256)] 5)
  have e : #[Value.int .u8 ((y : Int) % 256)] = (enc [UInt8.ofNat y]).toArray := by simp [enc, byt]
  rw [e] at h ⊢
  exact BI.block h 1 rfl
theorem Fr.trans1 {w w1 : World} (h : Fr w w1 (fun _ => False)) (o : Obj) : Fr w (w1.alloc o) (fun _ => False) := (h.trans (Fr.alloc _ _ (fun _ => False))).mono (by simp)

set_option maxHeartbeats 1000000 in
theorem refGet_any (l : List UInt8) (w : World) (hl : l.length ≤ 140737488355328) : Calls Try.prog 15 #[.string (strOf l)] w fun e w' => e = .returned (.int .u64 (getB l)) ∧ w' = w := by
  have hsz := size_strOf l
  go_enter Try.func15, Try.ntmps15
  go_wp2
  go_loopw [3, 4] (fun v i wr => ∃ k : Nat, k ≤ l.length ∧ i = .int .i64 k ∧ v = .int .u64 (getB (l.take k)) ∧ wr = w) (fun _ i _ => l.length - (intOf i).toNat)
  case atStart => exact ⟨0, by omega, rfl, rfl, rfl⟩
  case round =>
    obtain ⟨k, hk, rfl, rfl, rfl⟩ := hrel
    have hg := getB_lt (l.take k)
    by_cases hlt : k < l.length
    · obtain ⟨u, hu⟩ : ∃ u, l[k]? = some u := ⟨_, List.getElem?_eq_getElem hlt⟩
      have hgm : (strOf l)[k]'(by rw [hsz]; exact hlt) = u := by
        rw [List.getElem?_eq_getElem hlt] at hu
        injection hu
      have e2 : getB (l.take (k + 1)) = (getB (l.take k) * 256 + u.toNat) % 18446744073709551616 := by
        rw [List.take_add_one, hu, Option.toList_some, getB_snoc]
      have E2 := hide e2
      have hul : u.toNat < 256 := u.toNat_lt
      clear e2 hu
      go_wp2
      go_roundw
      case rel =>
        refine ⟨k + 1, by omega, by go_num, ?_, trivial⟩
        rw [E2.out, IntKind.wrap_u64, IntKind.wrap_u64]
        congr 1
        omega
      case measure => simp [intOf]; omega
    · obtain rfl : k = l.length := by omega
      go_wp2
      go_ret
      exact ⟨by rw [List.take_length]; rfl, rfl⟩

set_option maxHeartbeats 1000000 in
theorem number_ref (x : Nat) (hx : x < 18446744073709551616) (z : Int) (k : Nat) (hz : min (max z 0) 8 = (k : Int)) (w : World) : Calls Try.prog 13 #[.int .u64 x, .int .i64 z] w fun e w' => e = .returned (.string (strOf (numB x k))) ∧ Fr w w' (fun _ => False) := by
  have HZ := hide hz
  have hk8 : k ≤ 8 := by omega
  clear hz
  go_enter Try.func13, Try.ntmps13
  go_wp2
  go_loopw [0, 5, 6] (fun n s i wr => ∃ m : Nat, m ≤ k ∧ i = .int .i64 m ∧ n = .int .u64 ((x / 256 ^ m : Nat) : Int) ∧ s = .string (strOf (numB x m)) ∧ Fr w wr (fun _ => False)) (fun _ _ i _ => k - (intOf i).toNat)
  case atStart => exact ⟨0, by omega, rfl, by simp, rfl, Fr.refl _ _⟩
  case round =>
    rename World => w7
    obtain ⟨m, hm, rfl, rfl, rfl, hf⟩ := hrel
    have HF := hide hf
    clear hf
    by_cases hlt : m < k
    · have h1 : (m : Int) < z := by have := HZ.out; omega
      have h2 : (m : Int) < 8 := by omega
      obtain ⟨y, hy⟩ : ∃ y, y = x / 256 ^ m := ⟨_, rfl⟩
      have hyl : y < 18446744073709551616 := by rw [hy]; exact Nat.lt_of_le_of_lt (Nat.div_le_self _ _) hx
      rw [← hy]
      have HY := hide hy
      clear hy
      have hcv := run_string (w7.alloc (.cells #[.int .u8 ((y : Int) % 256)] 5)) (some ⟨w7.heap.size, 0, none⟩) 1 1 [UInt8.ofNat y] (bi_byte w7 y).bin
      have s1 := size_strOf [UInt8.ofNat y]
      have s2 := size_strOf (numB x m)
      have s3 := length_numB x m
      simp only [List.length_cons, List.length_nil] at s1
      go_wp2
      go_roundw
      case rel =>
        refine ⟨m + 1, by omega, by go_num, ?_, ?_, HF.out.trans1 _⟩
        · rw [HY.out, Nat.pow_succ, ← Nat.div_div_eq_div_mul]
          rfl
        · rw [numB_cons, ← HY.out, strOf_append]
          rfl
      case measure => simp [intOf]; omega
    · obtain rfl : m = k := by omega
      by_cases h1 : (m : Int) < z
      · have h2 : ¬ (m : Int) < 8 := by have := HZ.out; omega
        go_wp2
        go_ret
        exact ⟨rfl, HF.out⟩
      · go_wp2
        go_ret
        exact ⟨rfl, HF.out⟩
end Go.Proofs.Ytnbbgliegfmhpaa
