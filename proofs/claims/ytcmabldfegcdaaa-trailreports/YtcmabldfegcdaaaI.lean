/- The walks of Clone and Decode. -/
import Derived.Test.YtcmabldfegcdaaaH
namespace Go.Proofs.Ytcmabldfegcdaaa
open Go.RowKit
set_option maxRecDepth 100000
set_option linter.unusedVariables false

theorem own_empty (w : World) : OwnB (w.alloc (.cells #[] 5)) (.slice (some ⟨w.heap.size, 0, none⟩) 0 0) [] := by
  have h := own_made 0 (by omega) w
  rwa [show made 0 = #[] by simp [made, madeCells]] at h

theorem run_eql_nil22 (w : World) (a : Option Addr) (n c : Nat) : (binOp .eql 29 (.slice a n c) (.slice none 0 0)).run Try.prog w = .ok (.bool a.isNone) w := by
  simp only [binOp]
  simp [Op.equal, Op.maxDepth, Lib.run_equalIn_slice_nil w 9999 29 5 a n c 0 0 Try.underlying29]
theorem empty22 (w : World) : (Instr.buildSlice 29 0 #[]).run Try.prog w = .ok (.slice (some ⟨w.heap.size, 0, none⟩) 0 0) (w.alloc (.cells #[] 5)) := by kernel_rfl

set_option maxRecDepth 100000 in
set_option maxHeartbeats 1000000 in
theorem clone_any (a : Option Addr) (n c : Nat) (l : List UInt8) (w : World) (hb : BI w a n l) (hac : a = none → c = 0) (hn : n ≤ 140737488355328) :
    Calls Try.prog 34 #[.slice a n c] w fun x w' => ∃ v, x = .returned v ∧ OwnB w' v l ∧ Fr w w' (fun _ => False) ∧ ∀ q, v.ownBlock = some q → w.heap.size ≤ q := by
  cases a with
  | none =>
    obtain rfl : c = 0 := hac rfl
    have hn0 : n = 0 := hb.2.elim id (by rintro ⟨g, off, h1, _⟩; cases h1)
    have hl : l = [] := List.length_eq_zero_iff.1 (by rw [hb.1, hn0])
    subst hn0
    have HL := hide hl
    have heq := fun w1 => run_eql_nil22 w1 none 0 0
    clear hb hl
    go_enter Try.func34, Try.ntmps34
    go_wp2
    go_ret
    exact ⟨_, rfl, by rw [HL.out]; exact OwnB.nil _, Fr.refl _ _, by simp [Value.ownBlock]⟩
  | some ad =>
    have FA := Fr.alloc w (.cells #[] 5) (fun _ => False)
    have HB := hide (hb.fr FA (fun _ _ _ _ h => h))
    have HF := hide FA
    have HO := hide (own_empty w)
    have HLN := hide hb.1
    have heq := fun w1 => run_eql_nil22 w1 (some ad) n c
    have hem := empty22
    have hsz : (w.alloc (.cells #[] 5)).heap.size = w.heap.size + 1 := by simp
    clear hb FA
    go_enter Try.func34, Try.ntmps34
    go_wp2_with (refine wpList_pushAll rfl (.tmp 5) (.tmp 6) rfl _ _ rfl HO.out (some ad) n c l rfl HB.out (fun h => by cases h) (by simp; omega) ?_; intro v2 W2 o2 f2 r2; have HO2 := hide o2; have HF2 := hide f2; have HR2 := hide r2; clear o2 f2 r2)
    go_ret
    refine ⟨_, rfl, HO2.out, (HF.out.trans HF2.out).mono (fun q hq h => ?_), ?_⟩
    · rcases h with h | h
      · exact h
      · have := Option.some.inj h; simp only [] at this; omega
    · exact HR2.out.le (by rw [hsz]; omega) (fun q hq => by have := Option.some.inj hq; simp only [] at this; omega)

end Go.Proofs.Ytcmabldfegcdaaa
