/- The document's sector: a sector by a log's text. -/
import Derived.Test.YtachppnakmdjhaaAd
namespace Go.Proofs.Ytachppnakmdjhaa
open Go.RowKit
set_option linter.unusedVariables false

theorem strOf_cut (l : List UInt8) (k m : Nat) : (strOf l).extract k (k + m) = strOf ((l.drop k).take m) := by
  have h := Lib.extract_data (strOf l) k (k + m)
  have e : (strOf l).data.toList = l := by simp [strOf]
  rw [e, show k + m - k = m by omega] at h
  cases hh : (strOf l).extract k (k + m) with
  | mk d =>
    rw [hh] at h
    unfold strOf
    congr 1
    rw [← h]
theorem run_scut (l : List UInt8) (k m : Nat) (hk : k + m ≤ l.length) (w : World) : (Instr.sliceAt 9 (.string (strOf l)) (some (.int .i64 (k : Int))) (some (.int .i64 ((k : Int) + (m : Int)))) none).run Try.prog w = .ok (.string (strOf ((l.drop k).take m))) w := by
  have h2 : (k : Int) + (m : Int) ≤ (strOf l).size := by rw [strOf_size]; omega
  have h0 : (0 : Int) ≤ k := by omega
  have h1 : (k : Int) ≤ (k : Int) + (m : Int) := by omega
  have h3 : (0 : Int) ≤ (k : Int) + (m : Int) := by omega
  have h4 : ((k : Int) + (m : Int)).toNat = k + m := by omega
  go_simp
  exact strOf_cut l k m
theorem exec_scut {ρ : Operand → Value} {o : Oper} (x lo hi : Operand) (ho : o.op = .slice 9 x (some lo) (some hi) none) (l : List UInt8) (k m : Nat) (a b : Int) (hx : ρ x = .string (strOf l)) (hlo : ρ lo = .int .i64 a) (hhi : ρ hi = .int .i64 b) (ha : a = (k : Int)) (hb : b = (k : Int) + (m : Int)) (hk : k + m ≤ l.length) (w : World) :
    (execOp ρ o).run Try.prog w = .ok (.value (.string (strOf ((l.drop k).take m)))) w := by
  subst ha hb
  unfold execOp
  simp only [ho, hx, hlo, hhi, Option.map_none, Option.map_some, Sem.run_bind, run_scut l k m hk, Result.andThen_ok]
  rfl
theorem chunk_cell' (X : List UInt8) (k : Nat) (hl : (k + 1) * 256 ≤ X.length) : (X.drop (k * 256)).take 256 = cellL X k := by
  apply List.ext_getElem?
  intro i
  unfold cellL
  rw [List.getElem?_take, List.getElem?_map]
  by_cases hi : i < 256
  · rw [if_pos hi, List.getElem?_drop, List.getElem?_range hi]
    have : k * 256 + i < X.length := by omega
    simp [List.getElem?_eq_getElem this]
  · rw [if_neg hi, List.getElem?_eq_none (by simp; omega)]
    rfl
theorem zeros_add (a b : Nat) : zeros a ++ zeros b = zeros (a + b) := by simp [zeros, List.replicate_append_replicate]
def strLen : Value → Nat | .string b => b.size | _ => 0

set_option maxRecDepth 100000 in
set_option maxHeartbeats 1000000 in
theorem sector_ref (St : List UInt8) (sum dur first count n : Nat) (hSt : St.length ≤ 1048576) (hn : n ≤ 4096) (w : World) :
    Calls Try.prog 40 #[logV St sum dur first count, .int .i64 (n : Int)] w fun e w' => e = .returned (.string (strOf (cellL St n))) ∧ Fr w w' (fun _ => False) := by
  have hmk : ∀ V : World, (Instr.makeSlice 45 (.int .i64 256) (.int .i64 256)).run Try.prog V = .ok (.slice (some ⟨V.heap.size, 0, none⟩) 256 256) (V.alloc (.cells (enc (zeros 256)).toArray 5)) := fun V => run_madeN 256 (by omega) V
  have w1 : IntKind.i64.wrap ((n : Int) + 1) = (n : Int) + 1 := by rw [IntKind.wrap_i64]; omega
  have w2 : IntKind.i64.wrap (((n : Int) + 1) * 256) = ((n : Int) + 1) * 256 := by rw [IntKind.wrap_i64]; omega
  have w3 : IntKind.i64.wrap ((n : Int) * 256) = (n : Int) * 256 := by rw [IntKind.wrap_i64]; omega
  unfold logV
  go_enter Try.func40, Try.ntmps40
  go_wp2_with fail
  have FA := Fr.alloc w (.cells #[.string (strOf St), .int .u32 (sum : Int), .int .i64 (dur : Int), .int .i64 (first : Int), .int .i64 (count : Int)] 40) (fun _ => False)
  generalize w.alloc (.cells #[.string (strOf St), .int .u32 (sum : Int), .int .i64 (dur : Int), .int .i64 (first : Int), .int .i64 (count : Int)] 40) = W0 at *
  have HFA := hide FA
  clear FA
  go_loopw [5] (fun s wr => ∃ (X : List UInt8) (m : Nat), s = .string (strOf X) ∧ X = St ++ zeros m ∧ X.length ≤ 4194304 ∧ Fr W0 wr (fun _ => False)) (fun s _ => (n + 1) * 256 - strLen s)
  case atStart => exact ⟨St, 0, rfl, by simp [zeros], by omega, Fr.refl _ _⟩
  case round =>
    rename World => W
    obtain ⟨X, m, rfl, hX, hXl, hf⟩ := hrel
    have hz : (strOf X).size = X.length := size_strOf X
    have HX := hide hX
    have HF := hide hf
    clear hX hf
    by_cases hlt : X.length < (n + 1) * 256
    · have hlt' : (X.length : Int) < ((n : Int) + 1) * 256 := by omega
      have hcv := run_string (W.alloc (.cells (enc (zeros 256)).toArray 5)) (some ⟨W.heap.size, 0, none⟩) 256 256 (zeros 256) (BI.block (heap_alloc_new W _) 256 (length_zeros _)).bin
      have ec := run_string_add_sum (P := Try.prog) (W.alloc (.cells (enc (zeros 256)).toArray 5)) (strOf X) (strOf (zeros 256)) (by rw [size_strOf, size_strOf, length_zeros]; omega)
      rw [strOf_append] at ec
      go_wp2
      go_roundw
      case rel =>
        refine ⟨X ++ zeros 256, m + 256, rfl, by rw [HX.out, List.append_assoc, zeros_add], by rw [List.length_append, length_zeros]; omega, (HF.out.trans (Fr.alloc _ _ (fun _ => False))).mono (by simp)⟩
      case measure =>
        simp only [strLen, size_strOf, List.length_append, length_zeros]
        omega
    · have hlt' : ¬ (X.length : Int) < ((n : Int) + 1) * 256 := by omega
      have hfin := run_scut X (n * 256) 256 (by omega)
      have hC : (X.drop (n * 256)).take 256 = cellL St n := by rw [chunk_cell' X n (by omega), HX.out, cellL_pad]
      rw [hC] at hfin
      have e1 : ((n * 256 : Nat) : Int) = (n : Int) * 256 := by omega
      have e2 : ((n * 256 : Nat) : Int) + ((256 : Nat) : Int) = ((n : Int) + 1) * 256 := by omega
      rw [e2, e1] at hfin
      clear hC e1 e2
      go_wp2
      go_ret
      exact ⟨rfl, (HFA.out.trans HF.out).mono (by simp)⟩
end Go.Proofs.Ytachppnakmdjhaa
