/- Parts of slices; strings; steps of regions. -/
import Derived.Test.YtnbbgliegfmhpabN
namespace Go.Proofs.Ytnbbgliegfmhpab
open Go.RowKit

theorem strOf_append (a b : List UInt8) : strOf a ++ strOf b = strOf (a ++ b) := by
  apply ByteArray.ext
  simp [strOf]
theorem ht22 : Try.prog.underlying 24 = some (.slice (Try.prog.elem 24)) := by
  have hel : Try.prog.elem 24 = 5 := by kernel_rfl
  rw [hel]; exact Try.underlying24
theorem size_elem22 (W : World) : (sizeOf (Try.prog.elem 24)).run Try.prog W = .ok 1 W := by
  have hel : Try.prog.elem 24 = 5 := by kernel_rfl
  obtain ⟨i, hi, _, hs5, _⟩ := full5
  simp [hel, sizeOf, typeInfo, hi, hs5]

/-- What lies behind a place of a slice. -/
theorem run_tail (a : Option Addr) (n c k : Nat) (hk : k ≤ n) (hnc : n ≤ c) :
    ∃ a' c', (∀ W, (Instr.slice 24 (.slice a n c) (some (.int .i64 (k : Int))) none none).run Try.prog W = .ok (.slice a' (n - k) c') W) ∧ (∀ W l, BI W a n l → BI W a' (n - k) (l.drop k)) ∧ n - k ≤ c' := by
  refine ⟨if c = k then a else a.map (·.add k), c - k, fun W => ?_, fun W l h => ?_, by omega⟩
  · rw [run_slice_l (P := Try.prog) W 24 a n c ht22 .i64 (k : Int) (by omega) (by omega), size_elem22]
    simp only [Result.andThen_ok, sliced, Int.toNat_natCast, Nat.mul_one]
  · refine ⟨by rw [List.length_drop, h.1], ?_⟩
    by_cases h0 : n - k = 0
    · exact .inl h0
    · right
      obtain ⟨g, off, rfl, hc⟩ := h.2.resolve_left (by omega)
      rw [if_neg (by omega)]
      refine ⟨g, off + k, by simp [Addr.add_mid], fun j u hu => ?_⟩
      rw [List.getElem?_drop] at hu
      have := hc (k + j) u hu
      rwa [← Nat.add_assoc] at this
/-- What lies ahead of a place of a slice. -/
theorem run_head (a : Option Addr) (n c k : Nat) (hk : k ≤ n) (hnc : n ≤ c) :
    ∃ a', (∀ W, (Instr.slice 24 (.slice a n c) none (some (.int .i64 (k : Int))) none).run Try.prog W = .ok (.slice a' k c) W) ∧ (∀ W l, BI W a n l → BI W a' k (l.take k)) := by
  refine ⟨if c = 0 then a else a.map (·.add 0), fun W => ?_, fun W l h => ?_⟩
  · rw [run_slice_h (P := Try.prog) W 24 a n c ht22 .i64 (k : Int) (by omega) (by omega), size_elem22]
    simp only [Result.andThen_ok, sliced, Int.toNat_natCast, Nat.sub_zero]
  · refine ⟨by rw [List.length_take, h.1]; omega, ?_⟩
    by_cases h0 : k = 0
    · exact .inl h0
    · right
      obtain ⟨g, off, rfl, hc⟩ := h.2.resolve_left (by omega)
      rw [if_neg (by omega)]
      refine ⟨g, off, rfl, fun j u hu => ?_⟩
      rw [List.getElem?_take] at hu
      split at hu
      · exact hc j u hu
      · cases hu

section
variable {ρ : Operand → Value} {o : Oper} {w : World}
theorem exec_string {a : Option Addr} {n c : Nat} {l : List UInt8} (x : Operand) (ho : o.op = .convert 24 9 x) (hx : ρ x = .slice a n c) (h : BI w a n l) :
    (execOp ρ o).run Try.prog w = .ok (.value (.string (strOf l))) w := by
  unfold execOp
  simp only [ho, hx, Sem.run_bind, run_string w a n c l h.bin, Result.andThen_ok]
  rfl
theorem exec_from {v r : Value} {k : Int} (x lo : Operand) (ho : o.op = .slice 24 x (some lo) none none) (hx : ρ x = v) (hlo : ρ lo = .int .i64 k)
    (hr : ∀ W, (Instr.slice 24 v (some (.int .i64 k)) none none).run Try.prog W = .ok r W) : (execOp ρ o).run Try.prog w = .ok (.value r) w := by
  unfold execOp
  simp only [ho, Option.map_some, Option.map_none, hx, hlo, Sem.run_bind, run_sliceAt_slice (P := Try.prog) w 24 _ _ _ _ ht22, hr, Result.andThen_ok]
  rfl
theorem exec_to {v r : Value} {k : Int} (x hi : Operand) (ho : o.op = .slice 24 x none (some hi) none) (hx : ρ x = v) (hhi : ρ hi = .int .i64 k)
    (hr : ∀ W, (Instr.slice 24 v none (some (.int .i64 k)) none).run Try.prog W = .ok r W) : (execOp ρ o).run Try.prog w = .ok (.value r) w := by
  unfold execOp
  simp only [ho, Option.map_some, Option.map_none, hx, hhi, Sem.run_bind, run_sliceAt_slice (P := Try.prog) w 24 _ _ _ _ ht22, hr, Result.andThen_ok]
  rfl
theorem exec_concat {a b : List UInt8} (t t' : TypeId) (x y : Operand) (ho : o.op = .binOp .add t x y t') (hx : ρ x = .string (strOf a)) (hy : ρ y = .string (strOf b)) (hs : a.length + b.length ≤ 9223372036854775807) :
    (execOp ρ o).run Try.prog w = .ok (.value (.string (strOf (a ++ b)))) w := by
  unfold execOp
  simp only [ho, hx, hy]
  have := run_string_add_sum (P := Try.prog) w (strOf a) (strOf b) (by rw [size_strOf, size_strOf]; exact hs)
  rw [strOf_append] at this
  simp [binOp, eqGuard, this]
end
end Go.Proofs.Ytnbbgliegfmhpab
