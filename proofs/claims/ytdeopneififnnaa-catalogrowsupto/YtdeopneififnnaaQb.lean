/- slices.Chunk at values, pieces of two; drawn regions within a round. -/
import Derived.Test.YtdeopneififnnaaQa
import Derived.RangeFuncNested
import Derived.RangeFuncBound
import Derived.RangeFuncCalls
import Derived.RangeFuncLeaves
import Derived.Shelf.Abstract
import Derived.Shelf.RegionOpen
import Derived.OwnWalkIn
import Derived.TacticsInMore
import Derived.LoopNIn
import Derived.LoopIn
namespace Go.Proofs.Ytdeopneififnnaa
open Go.RowKit Go.Shelf
set_option linter.unusedVariables false
attribute [local go_sem] Oper.semAt_some

theorem oper_round {P : Program} {l n : Nat} {o : Oper} {a : Act} {w : World} {K : Act → World → Prop} {Q : Exit → Act → World → Prop} (hd : ∀ c, o.op ≠ .defer c) (h : o.wp P a w K Q) : o.wpIn (Fence.wide.inRound l) n P a w K Q := by
  refine ⟨fun _ _ => trivial, ?_⟩
  rw [Oper.semAt_eq _ _ _ hd]
  unfold Oper.wp at h
  generalize (execOp a.eval o).run P w = r at h ⊢
  cases r with
  | ok x w' =>
    cases x with
    | value v => exact h
    | skip => exact h
    | defer d => exact h
    | enter f args =>
      refine ⟨fun h => by simp [Fence.wide] at h, CallsIn.inRound l (callsIn_wide.2 (Calls.mono h ?_))⟩
      intro e w'' hh
      cases e <;> exact hh
    | row r args => exact ⟨fun h => by simp [Fence.wide] at h, fun c cs _ => let ⟨v, w2, hr, s⟩ := h c cs; ⟨v, w2, hr, stepsIn_wide.2 s⟩⟩
    | _ => exact h.elim
  | halt x w' =>
    cases x with
    | panic v => exact h
    | _ => exact h.elim

theorem wpAnyIn_round {P : Program} {md : Region.Mode} {l n : Nat} {ops : Array Oper} {Q : Exit → Act → World → Prop} (hnd : ∀ (i : Nat) (o : Oper), ops[i]? = some o → ∀ c, o.op ≠ .defer c) (hQ : ¬ LetsOut Q) :
    ∀ (fuel : Nat) (listed : Array Bool) (a : Act) (w : World), wpAny P md ops Q fuel listed a w → wpAnyIn (Fence.wide.inRound l) n P md ops Q fuel listed a w
  | 0, _, _, _, h => h
  | fuel + 1, listed, a, w, h => by
    refine ⟨h.1, fun i hi => ?_⟩
    have h1 := h.2 i hi
    unfold wpOp at h1
    unfold wpOpIn
    cases ho : ops[i]? with
    | none => rw [ho] at h1; exact wpAnyIn_round hnd hQ fuel _ _ _ h1
    | some o =>
      rw [ho] at h1
      simp only at h1 ⊢
      split
      · rename_i hw
        rw [if_pos hw] at h1
        rcases h1 with h1 | h1
        · exact Oper.wpIn_mono (fun a w h => wpAnyIn_round hnd hQ fuel _ a w h) (oper_round (hnd i o ho) h1)
        · exact absurd h1.2 hQ
      · rename_i hw
        rw [if_neg hw] at h1
        exact ⟨fun _ _ => trivial, wpAnyIn_round hnd hQ fuel _ _ _ h1⟩

def noDefer (ops : Array Oper) : Bool := ops.all fun o => match o.op with | .defer _ => false | _ => true
theorem noDefer_spec {ops : Array Oper} (h : noDefer ops = true) : ∀ (i : Nat) (o : Oper), ops[i]? = some o → ∀ c, o.op ≠ .defer c := by
  intro i o ho c hc
  simp only [noDefer, Array.all_eq_true_iff_forall_mem] at h
  have h1 := h o (Array.mem_of_getElem? ho)
  rw [hc] at h1
  cases h1
theorem wp_region_round {P : Program} {ops : Array Oper} {Q : Exit → Act → World → Prop} {l n : Nat} (hold : Nat → Bool) (S : World → Prop) {id : Nat} {a : Act} {w : World} (hm : P.follows .mixedOrders = true) (hnd : noDefer ops = true) (hQ : ¬ LetsOut Q)
    (h : wpAnyK P .any ops Q hold S ops.size (Array.replicate ops.size false) a w.drew) : (Code.region id ops true).wpIn (Fence.wide.inRound l) n P Q a w :=
  wpIn_region_any hm (wpAnyIn_round (noDefer_spec hnd) hQ _ _ _ _ (wpAny_of_K _ _ _ _ h))

theorem ht46 : Try.prog.underlying 46 = some (.slice (Try.prog.elem 46)) := by
  have hel : Try.prog.elem 46 = 56 := by kernel_rfl
  rw [hel]; exact Try.underlying46
theorem size_elem46 (W : World) : (sizeOf (Try.prog.elem 46)).run Try.prog W = .ok 3 W := by
  have hel : Try.prog.elem 46 = 56 := by kernel_rfl
  obtain ⟨i, hi, _, hs5, _⟩ := full56
  simp [hel, sizeOf, typeInfo, hi, hs5]
/-- The piece number j: two values. -/
def pieceV (g off cnt j : Nat) : Value := .slice (some ⟨g, off + min j (cnt - 1) * 6, none⟩) 2 2
/-- Two blocks that an iterator reads between rounds. -/
def TwoK (B1 B2 : Nat) (W W' : World) : Prop := W'.heap[B1]? = W.heap[B1]? ∧ W'.heap[B2]? = W.heap[B2]?

set_option maxRecDepth 100000 in
theorem chunk_any (a : Option Addr) (n c : Nat) (w : World) :
    Calls Try.prog 59 #[.slice a n c, .int .i64 2] w fun e w' => e = .returned (.func (.func 64) #[] #[.pointer (some ⟨w.heap.size, 0, none⟩), .pointer (some ⟨w.heap.size + 1, 0, none⟩)]) ∧ w' = (w.alloc (.cells #[.slice a n c] 46)).alloc (.cells #[.int .i64 2] 3) := by
  go_enter Try.func59, Try.ntmps59
  go_wp2
  go_ret
  exact ⟨rfl, rfl⟩
theorem run_tailFrom (g off n c k : Nat) (hk : k ≤ n) (w : World) : (Instr.slice 46 (.slice (some ⟨g, off, none⟩) n c) (some (.int .i64 (k : Int))) none none).run Try.prog w = .ok (.slice (if c = k then some ⟨g, off, none⟩ else some ⟨g, off + k * 3, none⟩) (n - k) (c - k)) w := by
  rw [run_slice_l (P := Try.prog) w 46 _ n c ht46 .i64 (k : Int) (by omega) (by omega), size_elem46]
  simp only [Result.andThen_ok, sliced, Int.toNat_natCast, Option.map_some, Addr.add_mid]
theorem exec_tailFrom {ρ : Operand → Value} {o : Oper} (x lo : Operand) (ho : o.op = .slice 46 x (some lo) none none) (g off n c k : Nat) (l : Int) (hx : ρ x = .slice (some ⟨g, off, none⟩) n c) (hlo : ρ lo = .int .i64 l) (hl : l = k) (hk : k ≤ n) (w : World) :
    (execOp ρ o).run Try.prog w = .ok (.value (.slice (if c = k then some ⟨g, off, none⟩ else some ⟨g, off + k * 3, none⟩) (n - k) (c - k))) w := by
  subst hl
  unfold execOp
  simp only [ho, Option.map_some, Option.map_none, hx, hlo, Sem.run_bind, run_sliceAt_slice (P := Try.prog) w 46 _ _ _ _ ht46, run_tailFrom g off n c k hk w, Result.andThen_ok]
  rfl
theorem run_piece (g off n c k m : Nat) (hm : 0 < m) (hk : k + m ≤ n) (hc : n ≤ c) (w : World) : (Instr.slice 46 (.slice (some ⟨g, off, none⟩) n c) (some (.int .i64 (k : Int))) (some (.int .i64 ((k : Int) + (m : Int)))) (some (.int .i64 ((k : Int) + (m : Int))))).run Try.prog w = .ok (.slice (some ⟨g, off + k * 3, none⟩) m m) w := by
  rw [run_slice_lhm (P := Try.prog) w 46 _ n c ht46 .i64 .i64 .i64 (k : Int) ((k : Int) + (m : Int)) ((k : Int) + (m : Int)) (by omega) (by omega) (by omega) (by omega), size_elem46]
  simp only [Result.andThen_ok, sliced, Int.toNat_natCast, Option.map_some, Addr.add_mid]
  rw [show ((k : Int) + (m : Int)).toNat = k + m by omega, if_neg (by omega), show k + m - k = m by omega]

set_option maxRecDepth 100000 in
set_option maxHeartbeats 3000000 in
theorem chunk64 (nn : Nat) (l B1 B2 g off n c cnt : Nat) (hcn : n = cnt * 2) (hn : n ≤ 1048576) (hc : n ≤ c) (J Jx : List Nat → World → Prop)
    (hJ : ∀ pre W, J pre W → J pre W.drew)
    (hY : ∀ pre x W, J pre W → pre.length < cnt → YieldAt Fence.wide (nn - 1) Try.prog l #[pieceV g off cnt x] W fun e W' =>
      (e = .returned (.bool true) ∧ J (pre ++ [x]) W' ∧ TwoK B1 B2 W W') ∨ (e = .returned (.bool false) ∧ Jx (pre ++ [x]) W'))
    (W : World) (h1 : W.heap[B1]? = some (.cells #[.slice (some ⟨g, off, none⟩) n c] 46 (0, 0))) (h2 : W.heap[B2]? = some (.cells #[.int .i64 2] 3 (0, 0))) (h0 : J [] W) :
    CallsIn Fence.wide nn Try.prog 64 #[.func (.yield l) #[] #[], .pointer (some ⟨B1, 0, none⟩), .pointer (some ⟨B2, 0, none⟩)] W fun e W' => (∃ v, e = .returned v) ∧
      ((∃ ys, ys = List.range (cnt) ∧ J ys W') ∨ (∃ pre, True ∧ Jx pre W')) := by
  refine callsIn_of_wp Try.func64 rfl trivial ?_ rfl
  simp only [Try.ntmps64, List.size_toArray, List.length_cons, List.length_nil, Nat.reduceAdd, Nat.reduceSub, Array.replicate_succ, Array.replicate_zero, List.push_toArray, List.append_toArray, List.nil_append, List.cons_append]
  gi_wp2
  gi_loopw [4] (fun i wr => ∃ k : Nat, k ≤ cnt ∧ i = .int .i64 ((k * 2 : Nat) : Int) ∧ J (List.range k) wr ∧ TwoK B1 B2 W wr)
    (fun i _ => cnt * 2 - (intOf i).toNat)
  case atStart => exact ⟨0, Nat.zero_le _, rfl, h0, rfl, rfl⟩
  case round =>
    obtain ⟨k, hk, rfl, hJs, hnx⟩ := hrel
    have x1 : wr.cell? ⟨B1, 0, none⟩ = some (.slice (some ⟨g, off, none⟩) n c) := by rw [cell_of_row _ _ _ _ _ _ (hnx.1.trans h1)]; rfl
    have x2 : wr.cell? ⟨B2, 0, none⟩ = some (.int .i64 2) := by rw [cell_of_row _ _ _ _ _ _ (hnx.2.trans h2)]; rfl
    by_cases hlt : k * 2 < n
    · have hS : (wr.drew.cell? ⟨B1, 0, none⟩ = some (.slice (some ⟨g, off, none⟩) n c) ∧ wr.drew.cell? ⟨B2, 0, none⟩ = some (.int .i64 2)) := ⟨x1, x2⟩
      obtain ⟨m, hm⟩ : ∃ m, m = min 2 (n - k * 2) := ⟨_, rfl⟩
      have hm0 : 0 < m := by omega
      have hmn : k * 2 + m ≤ n := by omega
      obtain ⟨fn, tmps, assign, body, hy, hR⟩ := hY (List.range k) k wr.drew (hJ _ _ hJs) (by rw [List.length_range]; omega)
      rw [pieceV] at hy
      have hm2 : m = 2 := by omega
      have hpo : off + min k (cnt - 1) * 6 = off + k * 2 * 3 := by omega
      have hpv : (Value.slice (some ⟨g, off + min k (cnt - 1) * 6, none⟩) 2 2 : Value) = .slice (some ⟨g, off + k * 2 * 3, none⟩) m m := by rw [hm2, hpo]
      rw [hpv] at hy
      have hpc := run_piece g off n c (k * 2) m hm0 hmn hc
      have wkm : IntKind.i64.wrap (((k * 2 : Nat) : Int) + (m : Int)) = ((k * 2 : Nat) : Int) + (m : Int) := by rw [IntKind.wrap_i64]; omega
      have HM := hide hm
      clear hm hm2 hpo hpv
      obtain ⟨kk, hkk⟩ : ∃ kk, kk = k * 2 := ⟨_, rfl⟩
      rw [← hkk] at hlt hmn hpc wkm hy ⊢
      have HKK := hide hkk
      have HMM := hide (show (m : Int) = min 2 ((n - kk : Nat) : Int) by rw [HM.out, hkk]; omega)
      clear hkk
      have hlt2 : (kk : Int) < (n : Int) := by omega
      have HR := hide hR
      clear hR
      gi_wp2_with fail
      refine wpIn_wide.2 ?_
      refine wp_region_K (fun _ => true) (fun V => V.cell? ⟨B1, 0, none⟩ = some (.slice (some ⟨g, off, none⟩) n c) ∧ V.cell? ⟨B2, 0, none⟩ = some (.int .i64 2)) (by kernel_rfl) ?_
      refine wpAnyK_takeTo 0 (some 13) (.int .i64 2) [] rfl rfl (by kernel_rfl) (by kernel_rfl) (by kernel_rfl) (by kernel_rfl) (fun _ _ _ h => h) hS (Or.inl ⟨rfl, fun w1 hw1 => by obtain ⟨y1, y2⟩ := hw1; go_simp⟩) ?_
      simp only [Act.put, List.setIfInBounds_toArray, List.set_cons_zero, List.set_cons_succ]
      refine wpAnyK_takeTo 1 (some 14) (.slice (some ⟨g, off, none⟩) n c) [] rfl rfl (by kernel_rfl) (by kernel_rfl) (by kernel_rfl) (by kernel_rfl) (fun _ _ _ h => h) hS (Or.inl ⟨rfl, fun w1 hw1 => by obtain ⟨y1, y2⟩ := hw1; go_simp⟩) ?_
      simp only [Act.put, List.setIfInBounds_toArray, List.set_cons_zero, List.set_cons_succ]
      refine wpAnyK_takeTo 2 (some 15) (.int .i64 (kk : Int)) [] rfl rfl (by kernel_rfl) (by kernel_rfl) (by kernel_rfl) (by kernel_rfl) (fun _ _ _ h => h) hS (Or.inl ⟨rfl, fun w1 hw1 => by go_simp⟩) ?_
      simp only [Act.put, List.setIfInBounds_toArray, List.set_cons_zero, List.set_cons_succ]
      refine wpAnyK_takeTo 3 (some 16) (.slice (if c = kk then some ⟨g, off, none⟩ else some ⟨g, off + kk * 3, none⟩) (n - kk) (c - kk)) [] rfl rfl (by kernel_rfl) (by kernel_rfl) (by kernel_rfl) (by kernel_rfl) (fun _ _ _ h => h) hS (Or.inl ⟨rfl, fun w1 hw1 => exec_tailFrom (.tmp 14) (.tmp 15) rfl g off n c kk _ rfl rfl rfl (by omega) _⟩) ?_
      simp only [Act.put, List.setIfInBounds_toArray, List.set_cons_zero, List.set_cons_succ]
      refine wpAnyK_takeTo 4 (some 17) (.int .i64 ((n - kk : Nat) : Int)) [] rfl rfl (by kernel_rfl) (by kernel_rfl) (by kernel_rfl) (by kernel_rfl) (fun _ _ _ h => h) hS (Or.inl ⟨rfl, fun w1 hw1 => by go_simp⟩) ?_
      simp only [Act.put, List.setIfInBounds_toArray, List.set_cons_zero, List.set_cons_succ]
      refine wpAnyK_takeTo 5 (some 18) (.int .i64 (m : Int)) [] rfl rfl (by kernel_rfl) (by kernel_rfl) (by kernel_rfl) (by kernel_rfl) (fun _ _ _ h => h) hS (Or.inl ⟨rfl, fun w1 hw1 => by rw [HMM.out]; go_simp; try omega⟩) ?_
      simp only [Act.put, List.setIfInBounds_toArray, List.set_cons_zero, List.set_cons_succ]
      refine wpAnyK_takeTo 6 (some 5) (.int .i64 (m : Int)) [] rfl rfl (by kernel_rfl) (by kernel_rfl) (by kernel_rfl) (by kernel_rfl) (fun _ _ _ h => h) hS (Or.inl ⟨rfl, fun w1 hw1 => by go_simp⟩) ?_
      simp only [Act.put, List.setIfInBounds_toArray, List.set_cons_zero, List.set_cons_succ]
      refine wpAnyK_done (by kernel_rfl) ?_ _
      clear hS
      obtain ⟨V, hV⟩ : ∃ V, V = wr.drew := ⟨_, rfl⟩
      have y1 : V.cell? ⟨B1, 0, none⟩ = some (.slice (some ⟨g, off, none⟩) n c) := by rw [hV]; exact x1
      have y2 : V.cell? ⟨B2, 0, none⟩ = some (.int .i64 2) := by rw [hV]; exact x2
      have hVT : TwoK B1 B2 W V := by rw [hV]; exact hnx
      rw [← hV] at hy HR ⊢
      clear hV x1 x2 hnx hJs
      gi_wp2_with fail
      refine ⟨fun h => by simp [Fence.wide] at h, ?_⟩
      refine HR.out.mono ?_
      rintro e W3 (⟨rfl, hJ3, hk3⟩ | ⟨rfl, hJx3⟩)
      · have z1 : W3.cell? ⟨B2, 0, none⟩ = some (.int .i64 2) := by rw [cell_of_row _ _ _ _ _ _ (hk3.2.trans (hVT.2.trans h2))]; rfl
        have HT3 := hide (show TwoK B1 B2 W W3 from ⟨hk3.1.trans hVT.1, hk3.2.trans hVT.2⟩)
        have HJ3 := hide hJ3
        clear hk3 hJ3
        have w256 : IntKind.i64.wrap ((kk : Int) + 2) = (kk : Int) + 2 := by rw [IntKind.wrap_i64]; omega
        gi_wp2
        go_roundw
        case rel => exact ⟨k + 1, by have := HKK.out; omega, by rw [HKK.out]; go_num, by rw [List.range_succ]; exact HJ3.out, HT3.out⟩
        case measure => have := HKK.out; simp [intOf]; omega
      · gi_wp2
        refine bodyPost_ret (results_none rfl _ _ _) rfl ?_
        exact ⟨⟨_, rfl⟩, .inr ⟨_, trivial, hJx3⟩⟩
    · have hkn : k = cnt := by omega
      have hlt2 : ¬ (((k * 2 : Nat) : Int) < (n : Int)) := by omega
      have hlt3 : ¬ ((k : Int) * 2 < (n : Int)) := by omega
      have HJ := hide hJs
      clear hJs
      have HKN := hide hkn
      clear hkn
      gi_wp2
      go_end0
      exact ⟨⟨_, rfl⟩, .inl (by rw [← HKN.out]; exact HJ.out)⟩
theorem chunk_stops (nn : Nat) (B1 B2 g off n c cnt : Nat) (hcn : n = cnt * 2) (hn : n ≤ 1048576) (hc : n ≤ c) (w : World) (h1 : w.heap[B1]? = some (.cells #[.slice (some ⟨g, off, none⟩) n c] 46 (0, 0))) (h2 : w.heap[B2]? = some (.cells #[.int .i64 2] 3 (0, 0))) :
    SeqStopsK Fence.wide nn Try.prog 64 #[.pointer (some ⟨B1, 0, none⟩), .pointer (some ⟨B2, 0, none⟩)] (fun j : Nat => #[pieceV g off cnt j]) (TwoK B1 B2) (fun ys => ys = List.range cnt) (fun _ => True) cnt w := fun l J Jx W hW hJ hJx hY h0 => by
  have l1 : B1 < w.heap.size := (Array.getElem?_eq_some_iff.1 h1).1
  have l2 : B2 < w.heap.size := (Array.getElem?_eq_some_iff.1 h2).1
  refine chunk64 nn l B1 B2 g off n c cnt hcn hn hc J Jx (fun pre V hV => hJ pre V V.drew none hV ⟨rfl, rfl, rfl, Nat.le_refl _, fun _ _ _ => rfl⟩ (fun r e => by cases e)) hY W ((hW.block B1 l1).trans h1) ((hW.block B2 l2).trans h2) h0
end Go.Proofs.Ytdeopneififnnaa
