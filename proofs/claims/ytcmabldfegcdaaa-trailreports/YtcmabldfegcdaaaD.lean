/- The walks of push and Put. -/
import Derived.Test.YtcmabldfegcdaaaC
namespace Go.Proofs.Ytcmabldfegcdaaa
open Go.RowKit
set_option maxRecDepth 100000

theorem numB_snoc (n k i : Nat) : numB (n / 256 ^ (i + 1)) k ++ [UInt8.ofNat (n / 256 ^ i)] = numB (n / 256 ^ i) (k + 1) := by
  rw [numB, Nat.div_div_eq_div_mul, Nat.pow_succ]

theorem push_cell (n m : Nat) : #[Value.int .u8 ((n : Int) / 2 ^ (8 * (m - 1)) % 256)] = (enc [UInt8.ofNat (n / 256 ^ (m - 1))]).toArray := by
  have h : (256 : Nat) ^ (m - 1) = 2 ^ (8 * (m - 1)) := by rw [Nat.pow_mul]
  simp only [enc, byt, List.map_cons, List.map_nil, UInt8.toNat_ofNat', h]
  congr 3
theorem Fresh.trans {w w1 : World} {v x y : Value} (h : Fresh w v x) (hs : w.heap.size ≤ w1.heap.size) (h2 : Fresh w1 x y) : Fresh w v y := by
  rcases h2 with h2 | ⟨k, h2, h3⟩
  · rcases h with h | ⟨k, h, h3⟩
    · exact .inl (h2.trans h)
    · exact .inr ⟨k, h2.trans h, h3⟩
  · exact .inr ⟨k, h2, by omega⟩

set_option maxHeartbeats 1000000 in
theorem push_any (v : Value) (l : List UInt8) (n k : Nat) (hk : k ≤ 8) (w : World) (hown : OwnB w v l) (hlen : l.length + 8 ≤ 140737488355328) :
    Calls Try.prog 41 #[v, .int .u64 n, .int .i64 k] w fun e w' => ∃ v', e = .returned v' ∧ OwnB w' v' (l ++ numB n k) ∧ Fr w w' (fun q => v.ownBlock = some q) ∧ Fresh w v v' := by
  have HO := hide hown
  clear hown
  go_enter Try.func41, Try.ntmps41
  go_wp2
  go_loopw [0, 7] (fun x i wr => ∃ m : Nat, m ≤ k ∧ i = .int .i64 ((m : Int) - 1) ∧ OwnB wr x (l ++ numB (n / 256 ^ m) (k - m)) ∧ Fr w wr (fun q => v.ownBlock = some q) ∧ Fresh w v x) (fun _ i _ => (intOf i + 1).toNat)
  case atStart => exact ⟨k, by omega, rfl, by rw [Nat.sub_self]; simpa [numB] using HO.out, Fr.refl _ _, .inl rfl⟩
  case round =>
    rename World => w7
    obtain ⟨m, hm, rfl, ho, hf, hfr⟩ := hrel
    have HO1 := hide ho
    have HF1 := hide hf
    have HR1 := hide hfr
    clear ho hf hfr
    by_cases hm0 : 1 ≤ m
    · have HLE := hide (by rw [List.length_append, length_numB]; omega : (l ++ numB (n / 256 ^ m) (k - m)).length + 1 ≤ 140737488355328)
      have hm8 : m ≤ 8 := by omega
      go_wp2_with (refine wpList_push rfl (.tmp 14) (.tmp 20) rfl u0 _ rfl HO1.out _ 1 [UInt8.ofNat (n / 256 ^ (m - 1))] (push_cell n m) rfl _ rfl rfl HLE.out ?_; intro v1 w1 ho1 hf1 hr1; have HO2 := hide ho1; have HF2 := hide hf1; have HR2 := hide hr1; clear ho1 hf1 hr1)
      go_roundw
      case rel =>
        refine ⟨m - 1, by omega, by go_num, ?_, ?_, ?_⟩
        · have h1 := HO2.out
          have h2 := numB_snoc n (k - m) (m - 1)
          rw [show m - 1 + 1 = m by omega, show k - m + 1 = k - (m - 1) by omega] at h2
          rw [List.append_assoc, h2] at h1
          exact h1
        · refine (HF1.out.trans HF2.out).mono ?_
          rintro q hq (h1 | h1)
          · exact h1
          · rcases HR1.out with h2 | ⟨k2, h2, h3⟩
            · rw [← h2]; exact h1
            · rw [h2] at h1; injection h1; omega
        · exact HR1.out.trans HF1.out.size HR2.out
      case measure => simp [intOf]; omega
    · obtain rfl : m = 0 := by omega
      go_wp2
      go_ret
      refine ⟨_, rfl, ?_, HF1.out, HR1.out⟩
      have h1 := HO1.out
      rw [Nat.pow_zero, Nat.div_one, Nat.sub_zero] at h1
      exact h1
def made (n : Nat) : Array Value := madeCells (Value.int .u8 0).cells n
theorem run_made (n : Nat) (h : n ≤ 140737488355328) (z : Int) (hz : z = n) (w : World) : (Instr.makeSlice 29 (.int .i64 0) (.int .i64 z)).run Try.prog w = .ok (.slice (some ⟨w.heap.size, 0, none⟩) 0 n) (w.alloc (.cells (made n) 5)) := by
  subst hz
  obtain ⟨i, hi, hzz, hs5, hby⟩ := full5
  have := run_make (P := Try.prog) w 29 5 i _ Try.underlying29 hi hzz .i64 .i64 0 n (Int.le_refl _) (by omega) (by rw [hby]; omega) (by omega)
  rw [hs5] at this
  simpa [made] using this
theorem own_made (n : Nat) (h : n ≤ 140737488355328) (w : World) : OwnB (w.alloc (.cells (made n) 5)) (.slice (some ⟨w.heap.size, 0, none⟩) 0 n) [] :=
  World.ownsRow_made w _ n (Nat.zero_le _) (by unfold maxLen; omega) (by rw [made, size_madeCells, Nat.mul_one])

set_option maxHeartbeats 1000000 in
theorem put_neg (a : Option Addr) (n c : Nat) (l : List UInt8) (x k : Nat) (z : Int) (hz : z < 0) (hk : k = 0) (w : World) (hb : BI w a n l) (hc : a = none → c = 0) (hlen : n + 8 ≤ 140737488355328) :
    Calls Try.prog 30 #[.slice a n c, .int .u64 x, .int .i64 z] w fun e w' => ∃ v', e = .returned v' ∧ OwnB w' v' (l ++ numB x k) ∧ Fr w w' (fun _ => False) ∧ ∀ q, v'.ownBlock = some q → w.heap.size ≤ q := by
  subst hk
  have HB := hide (hb.fr (Fr.alloc w (.cells (made (n + 0)) 5) (fun _ => False)) (fun _ _ _ _ h => h))
  have HC := hide hc
  have hlb := hide hb.1
  clear hb hc
  have hmk : ∀ W : World, (Instr.makeSlice 29 (.int .i64 0) (.int .i64 (n : Int))).run Try.prog W = .ok (.slice (some ⟨W.heap.size, 0, none⟩) 0 (n + 0)) (W.alloc (.cells (made (n + 0)) 5)) :=
    run_made (n + 0) (by omega) _ (by omega)
  have HM := hide (own_made (n + 0) (by omega) w)
  have HLE := hide (by simp; omega : ([] : List UInt8).length + n ≤ 140737488355328)
  go_enter Try.func30, Try.ntmps30
  go_wp2_with (refine wpList_pushAll rfl (.tmp 16) (.tmp 17) rfl _ _ rfl HM.out a n c _ rfl HB.out HC.out HLE.out ?_; intro v1 w1 ho1 hf1 hr1; have HO1 := hide ho1; have HF1 := hide hf1; have HR1 := hide hr1; clear ho1 hf1 hr1)
  have s1 := HF1.out.size
  simp only [World.size_alloc] at s1
  refine (push_any v1 ([] ++ l) x 0 (by omega) w1 HO1.out (by rw [List.nil_append, hlb.out]; omega)).mono ?_
  rintro e w2 ⟨v2, rfl, ho2, hf2, hr2⟩
  have hup : ∀ q, v1.ownBlock = some q → w.heap.size ≤ q := HR1.out.le (by simp) (by intro q hq; simp [Act.eval, Value.ownBlock] at hq; omega)
  have hup2 := hr2.le (by omega) hup
  go_wp2
  go_ret
  refine ⟨_, rfl, ho2, ⟨?_, ?_, ?_, ?_, ?_⟩, hup2⟩
  · rw [hf2.os, HF1.out.os]; rfl
  · rw [hf2.tape, HF1.out.tape]; rfl
  · rw [hf2.output, HF1.out.output]; rfl
  · have := hf2.size; omega
  · intro q hq _
    rw [hf2.block q (by omega) (fun h => by have := hup q h; omega), HF1.out.block q (by simp; omega) (by intro h; simp [Act.eval, Value.ownBlock] at h; omega), Below.heap_alloc w _ q hq]

set_option maxHeartbeats 1000000 in
theorem put_big (a : Option Addr) (n c : Nat) (l : List UInt8) (x k : Nat) (z : Int) (hz : 8 < z) (hk : k = 8) (w : World) (hb : BI w a n l) (hc : a = none → c = 0) (hlen : n + 8 ≤ 140737488355328) :
    Calls Try.prog 30 #[.slice a n c, .int .u64 x, .int .i64 z] w fun e w' => ∃ v', e = .returned v' ∧ OwnB w' v' (l ++ numB x k) ∧ Fr w w' (fun _ => False) ∧ ∀ q, v'.ownBlock = some q → w.heap.size ≤ q := by
  subst hk
  have HB := hide (hb.fr (Fr.alloc w (.cells (made (n + 8)) 5) (fun _ => False)) (fun _ _ _ _ h => h))
  have HC := hide hc
  have hlb := hide hb.1
  clear hb hc
  have hmk : ∀ W : World, (Instr.makeSlice 29 (.int .i64 0) (.int .i64 ((n : Int) + 8))).run Try.prog W = .ok (.slice (some ⟨W.heap.size, 0, none⟩) 0 (n + 8)) (W.alloc (.cells (made (n + 8)) 5)) :=
    run_made (n + 8) (by omega) _ (by omega)
  have HM := hide (own_made (n + 8) (by omega) w)
  have HLE := hide (by simp; omega : ([] : List UInt8).length + n ≤ 140737488355328)
  go_enter Try.func30, Try.ntmps30
  go_wp2_with (refine wpList_pushAll rfl (.tmp 16) (.tmp 17) rfl _ _ rfl HM.out a n c _ rfl HB.out HC.out HLE.out ?_; intro v1 w1 ho1 hf1 hr1; have HO1 := hide ho1; have HF1 := hide hf1; have HR1 := hide hr1; clear ho1 hf1 hr1)
  have s1 := HF1.out.size
  simp only [World.size_alloc] at s1
  refine (push_any v1 ([] ++ l) x 8 (by omega) w1 HO1.out (by rw [List.nil_append, hlb.out]; omega)).mono ?_
  rintro e w2 ⟨v2, rfl, ho2, hf2, hr2⟩
  have hup : ∀ q, v1.ownBlock = some q → w.heap.size ≤ q := HR1.out.le (by simp) (by intro q hq; simp [Act.eval, Value.ownBlock] at hq; omega)
  have hup2 := hr2.le (by omega) hup
  go_wp2
  go_ret
  refine ⟨_, rfl, ho2, ⟨?_, ?_, ?_, ?_, ?_⟩, hup2⟩
  · rw [hf2.os, HF1.out.os]; rfl
  · rw [hf2.tape, HF1.out.tape]; rfl
  · rw [hf2.output, HF1.out.output]; rfl
  · have := hf2.size; omega
  · intro q hq _
    rw [hf2.block q (by omega) (fun h => by have := hup q h; omega), HF1.out.block q (by simp; omega) (by intro h; simp [Act.eval, Value.ownBlock] at h; omega), Below.heap_alloc w _ q hq]

set_option maxHeartbeats 1000000 in
theorem put_mid (a : Option Addr) (n c : Nat) (l : List UInt8) (x k : Nat) (z : Int) (hz : z = (k : Int)) (hk : k ≤ 8) (w : World) (hb : BI w a n l) (hc : a = none → c = 0) (hlen : n + 8 ≤ 140737488355328) :
    Calls Try.prog 30 #[.slice a n c, .int .u64 x, .int .i64 z] w fun e w' => ∃ v', e = .returned v' ∧ OwnB w' v' (l ++ numB x k) ∧ Fr w w' (fun _ => False) ∧ ∀ q, v'.ownBlock = some q → w.heap.size ≤ q := by
  subst hz
  have HB := hide (hb.fr (Fr.alloc w (.cells (made (n + k)) 5) (fun _ => False)) (fun _ _ _ _ h => h))
  have HC := hide hc
  have hlb := hide hb.1
  clear hb hc
  have hmk : ∀ W : World, (Instr.makeSlice 29 (.int .i64 0) (.int .i64 ((n : Int) + (k : Int)))).run Try.prog W = .ok (.slice (some ⟨W.heap.size, 0, none⟩) 0 (n + k)) (W.alloc (.cells (made (n + k)) 5)) :=
    run_made (n + k) (by omega) _ (by omega)
  have HM := hide (own_made (n + k) (by omega) w)
  have HLE := hide (by simp; omega : ([] : List UInt8).length + n ≤ 140737488355328)
  go_enter Try.func30, Try.ntmps30
  go_wp2_with (refine wpList_pushAll rfl (.tmp 16) (.tmp 17) rfl _ _ rfl HM.out a n c _ rfl HB.out HC.out HLE.out ?_; intro v1 w1 ho1 hf1 hr1; have HO1 := hide ho1; have HF1 := hide hf1; have HR1 := hide hr1; clear ho1 hf1 hr1)
  have s1 := HF1.out.size
  simp only [World.size_alloc] at s1
  refine (push_any v1 ([] ++ l) x k (by omega) w1 HO1.out (by rw [List.nil_append, hlb.out]; omega)).mono ?_
  rintro e w2 ⟨v2, rfl, ho2, hf2, hr2⟩
  have hup : ∀ q, v1.ownBlock = some q → w.heap.size ≤ q := HR1.out.le (by simp) (by intro q hq; simp [Act.eval, Value.ownBlock] at hq; omega)
  have hup2 := hr2.le (by omega) hup
  go_wp2
  go_ret
  refine ⟨_, rfl, ho2, ⟨?_, ?_, ?_, ?_, ?_⟩, hup2⟩
  · rw [hf2.os, HF1.out.os]; rfl
  · rw [hf2.tape, HF1.out.tape]; rfl
  · rw [hf2.output, HF1.out.output]; rfl
  · have := hf2.size; omega
  · intro q hq _
    rw [hf2.block q (by omega) (fun h => by have := hup q h; omega), HF1.out.block q (by simp; omega) (by intro h; simp [Act.eval, Value.ownBlock] at h; omega), Below.heap_alloc w _ q hq]

theorem put_any (a : Option Addr) (n c : Nat) (l : List UInt8) (x k : Nat) (z : Int) (hz : min (max z 0) 8 = (k : Int)) (w : World) (hb : BI w a n l) (hc : a = none → c = 0) (hlen : n + 8 ≤ 140737488355328) :
    Calls Try.prog 30 #[.slice a n c, .int .u64 x, .int .i64 z] w fun e w' => ∃ v', e = .returned v' ∧ OwnB w' v' (l ++ numB x k) ∧ Fr w w' (fun _ => False) ∧ ∀ q, v'.ownBlock = some q → w.heap.size ≤ q := by
  rcases (by omega : (z < 0 ∧ k = 0) ∨ (8 < z ∧ k = 8) ∨ (z = (k : Int) ∧ k ≤ 8)) with h | h | h
  · exact put_neg a n c l x k z h.1 h.2 w hb hc hlen
  · exact put_big a n c l x k z h.1 h.2 w hb hc hlen
  · exact put_mid a n c l x k z h.1 h.2 w hb hc hlen
end Go.Proofs.Ytcmabldfegcdaaa
