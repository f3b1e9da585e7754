/- The disk's writes as cells; how a write is built. -/
import Derived.Test.YtpjelmlbikmddaaDb
import Derived.Great.BuildSlice
namespace Go.Proofs.Ytpjelmlbikmddaa
open Go.RowKit

/-- A write's cells: its place, its bytes. -/
def wcells (k : Int) (l : List UInt8) : List Value := .int .i64 k :: enc l

set_option maxRecDepth 100000 in
theorem fill_two (a : Value) (ha : a.cells = #[a]) (l : List Value) (Z : Array Value) (hZ : Z.size = l.length + 1) :
    Instr.fill (fun i => #[(0, 1), (1, l.length)][i]?) Z [(0, a), (1, .agg l.toArray)] = some (a :: l).toArray := by
  have e1 : ((#[a] : Array Value).zipIdx.foldl (fun cs (x : Value × Nat) => cs.setIfInBounds (0 + x.2) x.1) Z) = Z.setIfInBounds 0 a := by
    simp [Array.zipIdx]
  obtain ⟨h1, h2⟩ := Great.foldl_set 1 l 0 (Z.setIfInBounds 0 a)
  have e2 : (l.toArray.zipIdx.foldl (fun cs (x : Value × Nat) => cs.setIfInBounds (1 + x.2) x.1) (Z.setIfInBounds 0 a)) = (a :: l).toArray := by
    rw [← Array.foldl_toList, Array.toList_zipIdx]
    apply Array.ext_getElem?
    intro k
    rw [h2 k]
    simp only [Array.size_setIfInBounds, Nat.add_zero]
    cases k with
    | zero =>
      rw [if_neg (by omega)]
      have : 0 < Z.size := by omega
      simp [this]
    | succ k =>
      by_cases hk : k < l.length
      · rw [if_pos (by omega)]; simp
      · rw [if_neg (by omega)]
        simp
        rw [Array.getElem?_eq_none (by omega), List.getElem?_eq_none (by omega)]
  simp only [Instr.fill, ha]
  have c2 : (Value.agg l.toArray).cells = l.toArray := rfl
  simp only [c2]
  have t1 : (#[((0 : Nat), (1 : Nat)), (1, l.length)] : Array (Nat × Nat))[0]? = some (0, 1) := rfl
  have t2 : (#[((0 : Nat), (1 : Nat)), (1, l.length)] : Array (Nat × Nat))[1]? = some (1, l.length) := rfl
  simp only [t1, t2]
  rw [if_neg (by simp [hZ]), e1, if_neg (by simp [hZ]; omega), e2]

set_option maxRecDepth 100000 in
theorem built_eq : Try.prog.built 93 = fun parts => Instr.fill (fun i => #[(0, 1), (1, 256)][i]?) (wcells 0 (part 0 0)).toArray parts := by kernel_rfl

set_option maxRecDepth 100000 in
theorem built70 (k : Int) (l : List UInt8) (h : l.length = 256) : Try.prog.built 93 [(0, .int .i64 k), (1, .agg (enc l).toArray)] = some (wcells k l).toArray := by
  rw [built_eq]
  have := fill_two (.int .i64 k) rfl (enc l) (wcells 0 (part 0 0)).toArray (by simp only [wcells, List.size_toArray, List.length_cons, length_enc, h, length_part 0 0 (Nat.zero_le _)])
  rw [length_enc, h] at this
  exact this

set_option maxRecDepth 100000 in
theorem run_build70 (k : Int) (l : List UInt8) (h : l.length = 256) (w : World) : (Instr.build 93 #[(0, .int .i64 k), (1, .agg (enc l).toArray)]).run Try.prog w = .ok (.agg (wcells k l).toArray) w :=
  run_build w 93 _ _ (built70 k l h)

set_option maxRecDepth 100000 in
theorem exec_build70 {ρ : Operand → Value} {o : Oper} (x y : Operand) (ho : o.op = .build 93 #[(0, x), (1, y)]) (k : Int) (l : List UInt8) (hx : ρ x = .int .i64 k) (hy : ρ y = .agg (enc l).toArray) (h : l.length = 256) (w : World) :
    (execOp ρ o).run Try.prog w = .ok (.value (.agg (wcells k l).toArray)) w := by
  unfold execOp
  have e : (#[(0, x), (1, y)] : Array (Nat × Operand)).map (fun (i, x) => (i, ρ x)) = #[(0, .int .i64 k), (1, .agg (enc l).toArray)] := by simp [hx, hy]
  simp only [ho, Sem.run_bind, e, run_build70 k l h, Result.andThen_ok]
  rfl

set_option maxRecDepth 100000 in
theorem info70 : ∃ i, Try.prog.info? 93 = some i ∧ i.zero = some (.agg (wcells 0 (part 0 0)).toArray) ∧ i.size = 257 ∧ i.bytes = 264 := by
  have h0 : (Try.prog.info? 93).isSome = true := by kernel_rfl
  have h1 : (Try.prog.info? 93).bind (·.zero) = some (.agg (wcells 0 (part 0 0)).toArray) := by kernel_rfl
  have h2 : (Try.prog.info? 93).map (·.size) = some 257 := by kernel_rfl
  have h3 : (Try.prog.info? 93).map (·.bytes) = some 264 := by kernel_rfl
  obtain ⟨i, hi⟩ := Option.isSome_iff_exists.1 h0
  rw [hi] at h1 h2 h3
  exact ⟨i, hi, h1, Option.some.inj h2, Option.some.inj h3⟩

set_option maxRecDepth 100000 in
theorem run_buildSlice55 (k : Int) (l : List UInt8) (h : l.length = 256) (w : World) :
    (Instr.buildSlice 65 1 #[(0, .agg (wcells k l).toArray)]).run Try.prog w = .ok (.slice (some ⟨w.heap.size, 0, none⟩) 1 1) (w.alloc (.cells (wcells k l).toArray 93)) := by
  obtain ⟨i, h1, h2, h3, h4⟩ := info70
  refine run_buildSlice w 65 93 1 _ _ i _ Try.underlying65 h1 h2 (by rw [h3]; omega) (by rw [h3]; omega) ?_
  rw [h3]
  have hl : (wcells k l).length = 257 := by simp [wcells, length_enc, h]
  have := Great.fill_whole (s := 257) (by omega) [.agg (wcells k l).toArray] ((Array.range (1 * 257)).map ((Value.agg (wcells 0 (part 0 0)).toArray).cells[· % (Value.agg (wcells 0 (part 0 0)).toArray).cells.size]!))
    (by intro v hv; simp at hv; subst hv; simpa [Value.cells] using hl) (by simp)
  simpa [Value.cells] using this

set_option maxRecDepth 100000 in
theorem wp_buildSlice55 {o : Oper} {a : Act} {w : World} {K : Act → World → Prop} {Q : Exit → Act → World → Prop} (x : Operand) (ho : o.op = .buildSlice 65 1 #[(0, x)]) (d : Option Tmp) (hd : o.dst = d)
    (k : Int) (l : List UInt8) (hx : a.eval x = .agg (wcells k l).toArray) (h : l.length = 256)
    (hK : K (a.put d (.slice (some ⟨w.heap.size, 0, none⟩) 1 1)) (w.alloc (.cells (wcells k l).toArray 93))) : o.wp Try.prog a w K Q := by
  subst hd
  unfold Oper.wp execOp
  have e : (#[(0, x)] : Array (Nat × Operand)).map (fun (i, x) => (i, a.eval x)) = #[(0, .agg (wcells k l).toArray)] := by simp [hx]
  simp only [ho, Sem.run_bind, e, run_buildSlice55 k l h, Result.andThen_ok]
  exact hK

end Go.Proofs.Ytpjelmlbikmddaa
