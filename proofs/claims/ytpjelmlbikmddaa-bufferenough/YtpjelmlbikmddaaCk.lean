/- slices.Chunk at bytes, pieces of 256: the iterator's contract. -/
import Derived.Test.YtpjelmlbikmddaaE
import Derived.Test.YtpjelmlbikmddaaKr
import Derived.RangeFuncNested
import Derived.RangeFuncBound
import Derived.RangeFuncCalls
import Derived.RangeFuncLeaves
import Derived.Shelf.Abstract
import Derived.Shelf.RegionOpen
import Derived.WalkKit
import Derived.OwnWalkIn
import Derived.TacticsInMore
import Derived.LoopNIn
import Derived.LoopIn
namespace Go.Proofs.Ytpjelmlbikmddaa
open Go.RowKit Go.Shelf
set_option linter.unusedVariables false
attribute [local go_sem] Oper.semAt_some

/-- The piece number j of a slice of n bytes. -/
def pieceV (g off n j : Nat) : Value := .slice (some ⟨g, off + j * 256, none⟩) (min 256 (n - j * 256)) (min 256 (n - j * 256))
/-- Two blocks that an iterator reads between rounds. -/
def TwoK (B1 B2 : Nat) (W W' : World) : Prop := W'.heap[B1]? = W.heap[B1]? ∧ W'.heap[B2]? = W.heap[B2]?

set_option maxRecDepth 100000 in
theorem chunk_any (a : Option Addr) (n c : Nat) (w : World) :
    Calls Try.prog 105 #[.slice a n c, .int .i64 256] w fun e w' => e = .returned (.func (.func 106) #[] #[.pointer (some ⟨w.heap.size, 0, none⟩), .pointer (some ⟨w.heap.size + 1, 0, none⟩)]) ∧ w' = (w.alloc (.cells #[.slice a n c] 45)).alloc (.cells #[.int .i64 256] 3) := by
  go_enter Try.func105, Try.ntmps105
  go_wp2
  go_ret
  exact ⟨rfl, rfl⟩

set_option maxRecDepth 100000 in
theorem run_tailFrom (g off n c k : Nat) (hk : k ≤ n) (w : World) : (Instr.slice 45 (.slice (some ⟨g, off, none⟩) n c) (some (.int .i64 (k : Int))) none none).run Try.prog w = .ok (.slice (if c = k then some ⟨g, off, none⟩ else some ⟨g, off + k, none⟩) (n - k) (c - k)) w := by
  rw [run_slice_l (P := Try.prog) w 45 _ n c ht22 .i64 (k : Int) (by omega) (by omega), size_elem22]
  simp only [Result.andThen_ok, sliced, Int.toNat_natCast, Nat.mul_one, Option.map_some, Addr.add_mid]
set_option maxRecDepth 100000 in
theorem exec_tailFrom {ρ : Operand → Value} {o : Oper} (x lo : Operand) (ho : o.op = .slice 45 x (some lo) none none) (g off n c k : Nat) (l : Int) (hx : ρ x = .slice (some ⟨g, off, none⟩) n c) (hlo : ρ lo = .int .i64 l) (hl : l = k) (hk : k ≤ n) (w : World) :
    (execOp ρ o).run Try.prog w = .ok (.value (.slice (if c = k then some ⟨g, off, none⟩ else some ⟨g, off + k, none⟩) (n - k) (c - k))) w := by
  subst hl
  unfold execOp
  simp only [ho, Option.map_some, Option.map_none, hx, hlo, Sem.run_bind, run_sliceAt_slice (P := Try.prog) w 45 _ _ _ _ ht22, run_tailFrom g off n c k hk w, Result.andThen_ok]
  rfl
set_option maxRecDepth 100000 in
theorem run_piece (g off n c k m : Nat) (hm : 0 < m) (hk : k + m ≤ n) (hc : n ≤ c) (w : World) : (Instr.slice 45 (.slice (some ⟨g, off, none⟩) n c) (some (.int .i64 (k : Int))) (some (.int .i64 ((k : Int) + (m : Int)))) (some (.int .i64 ((k : Int) + (m : Int))))).run Try.prog w = .ok (.slice (some ⟨g, off + k, none⟩) m m) w := by
  rw [run_slice_lhm (P := Try.prog) w 45 _ n c ht22 .i64 .i64 .i64 (k : Int) ((k : Int) + (m : Int)) ((k : Int) + (m : Int)) (by omega) (by omega) (by omega) (by omega), size_elem22]
  simp only [Result.andThen_ok, sliced, Int.toNat_natCast, Nat.mul_one, Option.map_some, Addr.add_mid]
  rw [show ((k : Int) + (m : Int)).toNat = k + m by omega, if_neg (by omega), show k + m - k = m by omega]

set_option maxRecDepth 100000 in
set_option maxHeartbeats 3000000 in
theorem chunk63 (nn : Nat) (l B1 B2 g off n c : Nat) (hn : n ≤ 1048576) (hc : n ≤ c) (J Jx : List Nat → World → Prop)
    (hJ : ∀ pre W, J pre W → J pre W.drew)
    (hY : ∀ pre x W, J pre W → pre.length < (n + 255) / 256 → YieldAt Fence.wide (nn - 1) Try.prog l #[pieceV g off n x] W fun e W' =>
      (e = .returned (.bool true) ∧ J (pre ++ [x]) W' ∧ TwoK B1 B2 W W') ∨ (e = .returned (.bool false) ∧ Jx (pre ++ [x]) W'))
    (W : World) (h1 : W.heap[B1]? = some (.cells #[.slice (some ⟨g, off, none⟩) n c] 45 (0, 0))) (h2 : W.heap[B2]? = some (.cells #[.int .i64 256] 3 (0, 0))) (h0 : J [] W) :
    CallsIn Fence.wide nn Try.prog 106 #[.func (.yield l) #[] #[], .pointer (some ⟨B1, 0, none⟩), .pointer (some ⟨B2, 0, none⟩)] W fun e W' => (∃ v, e = .returned v) ∧
      ((∃ ys, ys = List.range ((n + 255) / 256) ∧ J ys W') ∨ (∃ pre, True ∧ Jx pre W')) := by
  refine callsIn_of_wp Try.func106 rfl trivial ?_ rfl
  simp only [Try.ntmps106, List.size_toArray, List.length_cons, List.length_nil, Nat.reduceAdd, Nat.reduceSub, Array.replicate_succ, Array.replicate_zero, List.push_toArray, List.append_toArray, List.nil_append, List.cons_append]
  gi_wp2
  gi_loopw [4] (fun i wr => ∃ k : Nat, k ≤ (n + 255) / 256 ∧ i = .int .i64 ((k * 256 : Nat) : Int) ∧ J (List.range k) wr ∧ TwoK B1 B2 W wr)
    (fun i _ => (n + 255) / 256 * 256 - (intOf i).toNat)
  case atStart => exact ⟨0, Nat.zero_le _, rfl, h0, rfl, rfl⟩
  case round =>
    obtain ⟨k, hk, rfl, hJs, hnx⟩ := hrel
    have x1 : wr.cell? ⟨B1, 0, none⟩ = some (.slice (some ⟨g, off, none⟩) n c) := by rw [cell_of_row _ _ _ _ _ _ (hnx.1.trans h1)]; rfl
    have x2 : wr.cell? ⟨B2, 0, none⟩ = some (.int .i64 256) := by rw [cell_of_row _ _ _ _ _ _ (hnx.2.trans h2)]; rfl
    by_cases hlt : k * 256 < n
    · have hS : (wr.drew.cell? ⟨B1, 0, none⟩ = some (.slice (some ⟨g, off, none⟩) n c) ∧ wr.drew.cell? ⟨B2, 0, none⟩ = some (.int .i64 256)) := ⟨x1, x2⟩
      obtain ⟨m, hm⟩ : ∃ m, m = min 256 (n - k * 256) := ⟨_, rfl⟩
      have hm0 : 0 < m := by omega
      have hmn : k * 256 + m ≤ n := by omega
      obtain ⟨fn, tmps, assign, body, hy, hR⟩ := hY (List.range k) k wr.drew (hJ _ _ hJs) (by rw [List.length_range]; omega)
      rw [pieceV, ← hm] at hy
      have hpc := run_piece g off n c (k * 256) m hm0 hmn hc
      have wkm : IntKind.i64.wrap (((k * 256 : Nat) : Int) + (m : Int)) = ((k * 256 : Nat) : Int) + (m : Int) := by rw [IntKind.wrap_i64]; omega
      have HM := hide hm
      clear hm
      obtain ⟨kk, hkk⟩ : ∃ kk, kk = k * 256 := ⟨_, rfl⟩
      rw [← hkk] at hlt hmn hpc wkm hy ⊢
      have HKK := hide hkk
      have HMM := hide (show (m : Int) = min 256 ((n - kk : Nat) : Int) by rw [HM.out, hkk]; omega)
      clear hkk
      have hlt2 : (kk : Int) < (n : Int) := by omega
      have HR := hide hR
      clear hR
      gi_wp2_with fail
      refine wpIn_wide.2 ?_
      refine wp_region_K (fun _ => true) (fun V => V.cell? ⟨B1, 0, none⟩ = some (.slice (some ⟨g, off, none⟩) n c) ∧ V.cell? ⟨B2, 0, none⟩ = some (.int .i64 256)) (by kernel_rfl) ?_
      refine wpAnyK_takeTo 0 (some 13) (.int .i64 256) [] rfl rfl (by kernel_rfl) (by kernel_rfl) (by kernel_rfl) (by kernel_rfl) (fun _ _ _ h => h) hS (Or.inl ⟨rfl, fun w1 hw1 => by obtain ⟨y1, y2⟩ := hw1; go_simp⟩) ?_
      simp only [Act.put, List.setIfInBounds_toArray, List.set_cons_zero, List.set_cons_succ]
      refine wpAnyK_takeTo 1 (some 14) (.slice (some ⟨g, off, none⟩) n c) [] rfl rfl (by kernel_rfl) (by kernel_rfl) (by kernel_rfl) (by kernel_rfl) (fun _ _ _ h => h) hS (Or.inl ⟨rfl, fun w1 hw1 => by obtain ⟨y1, y2⟩ := hw1; go_simp⟩) ?_
      simp only [Act.put, List.setIfInBounds_toArray, List.set_cons_zero, List.set_cons_succ]
      refine wpAnyK_takeTo 2 (some 15) (.int .i64 (kk : Int)) [] rfl rfl (by kernel_rfl) (by kernel_rfl) (by kernel_rfl) (by kernel_rfl) (fun _ _ _ h => h) hS (Or.inl ⟨rfl, fun w1 hw1 => by go_simp⟩) ?_
      simp only [Act.put, List.setIfInBounds_toArray, List.set_cons_zero, List.set_cons_succ]
      refine wpAnyK_takeTo 3 (some 16) (.slice (if c = kk then some ⟨g, off, none⟩ else some ⟨g, off + kk, none⟩) (n - kk) (c - kk)) [] rfl rfl (by kernel_rfl) (by kernel_rfl) (by kernel_rfl) (by kernel_rfl) (fun _ _ _ h => h) hS (Or.inl ⟨rfl, fun w1 hw1 => exec_tailFrom (.tmp 14) (.tmp 15) rfl g off n c kk _ rfl rfl rfl (by omega) _⟩) ?_
      simp only [Act.put, List.setIfInBounds_toArray, List.set_cons_zero, List.set_cons_succ]
      refine wpAnyK_takeTo 4 (some 17) (.int .i64 ((n - kk : Nat) : Int)) [] rfl rfl (by kernel_rfl) (by kernel_rfl) (by kernel_rfl) (by kernel_rfl) (fun _ _ _ h => h) hS (Or.inl ⟨rfl, fun w1 hw1 => by go_simp⟩) ?_
      simp only [Act.put, List.setIfInBounds_toArray, List.set_cons_zero, List.set_cons_succ]
      refine wpAnyK_takeTo 5 (some 18) (.int .i64 (m : Int)) [] rfl rfl (by kernel_rfl) (by kernel_rfl) (by kernel_rfl) (by kernel_rfl) (fun _ _ _ h => h) hS (Or.inl ⟨rfl, fun w1 hw1 => by rw [HMM.out]; go_simp; omega⟩) ?_
      simp only [Act.put, List.setIfInBounds_toArray, List.set_cons_zero, List.set_cons_succ]
      refine wpAnyK_takeTo 6 (some 5) (.int .i64 (m : Int)) [] rfl rfl (by kernel_rfl) (by kernel_rfl) (by kernel_rfl) (by kernel_rfl) (fun _ _ _ h => h) hS (Or.inl ⟨rfl, fun w1 hw1 => by go_simp⟩) ?_
      simp only [Act.put, List.setIfInBounds_toArray, List.set_cons_zero, List.set_cons_succ]
      refine wpAnyK_done (by kernel_rfl) ?_ _
      clear hS
      obtain ⟨V, hV⟩ : ∃ V, V = wr.drew := ⟨_, rfl⟩
      have y1 : V.cell? ⟨B1, 0, none⟩ = some (.slice (some ⟨g, off, none⟩) n c) := by rw [hV]; exact x1
      have y2 : V.cell? ⟨B2, 0, none⟩ = some (.int .i64 256) := by rw [hV]; exact x2
      have hVT : TwoK B1 B2 W V := by rw [hV]; exact hnx
      rw [← hV] at hy HR ⊢
      clear hV x1 x2 hnx hJs
      gi_wp2_with fail
      refine ⟨fun h => by simp [Fence.wide] at h, ?_⟩
      refine HR.out.mono ?_
      rintro e W3 (⟨rfl, hJ3, hk3⟩ | ⟨rfl, hJx3⟩)
      · have z1 : W3.cell? ⟨B2, 0, none⟩ = some (.int .i64 256) := by rw [cell_of_row _ _ _ _ _ _ (hk3.2.trans (hVT.2.trans h2))]; rfl
        have HT3 := hide (show TwoK B1 B2 W W3 from ⟨hk3.1.trans hVT.1, hk3.2.trans hVT.2⟩)
        have HJ3 := hide hJ3
        clear hk3 hJ3
        have w256 : IntKind.i64.wrap ((kk : Int) + 256) = (kk : Int) + 256 := by rw [IntKind.wrap_i64]; omega
        gi_wp2
        go_roundw
        case rel => exact ⟨k + 1, by have := HKK.out; omega, by rw [HKK.out]; go_num, by rw [List.range_succ]; exact HJ3.out, HT3.out⟩
        case measure => have := HKK.out; simp [intOf]; omega
      · gi_wp2
        refine bodyPost_ret (results_none rfl _ _ _) rfl ?_
        exact ⟨⟨_, rfl⟩, .inr ⟨_, trivial, hJx3⟩⟩
    · have hkn : k = (n + 255) / 256 := by omega
      have hlt2 : ¬ (((k * 256 : Nat) : Int) < (n : Int)) := by omega
      have hlt3 : ¬ ((k : Int) * 256 < (n : Int)) := by omega
      have HJ := hide hJs
      clear hJs
      have HKN := hide hkn
      clear hkn
      gi_wp2
      go_end0
      exact ⟨⟨_, rfl⟩, .inl (by rw [← HKN.out]; exact HJ.out)⟩
end Go.Proofs.Ytpjelmlbikmddaa
