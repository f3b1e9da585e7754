/- Clone of bytes; a record's sum. -/
import Derived.Test.YtpjelmlbikmddaaE
import Derived.Test.YtpjelmlbikmddaaKr
namespace Go.Proofs.Ytpjelmlbikmddaa
open Go.RowKit
set_option linter.unusedVariables false

theorem own_empty (w : World) : OwnB (w.alloc (.cells #[] 5)) (.slice (some ⟨w.heap.size, 0, none⟩) 0 0) [] := by
  have h := own_made 0 (by omega) w
  rwa [show made 0 = #[] by simp [made, madeCells]] at h

theorem run_eql_nil45 (w : World) (a : Option Addr) (n c : Nat) : (binOp .eql 45 (.slice a n c) (.slice none 0 0)).run Try.prog w = .ok (.bool a.isNone) w := by
  simp only [binOp]
  simp [Op.equal, Op.maxDepth, Lib.run_equalIn_slice_nil w 9999 45 5 a n c 0 0 Try.underlying45]
theorem empty45 (w : World) : (Instr.buildSlice 45 0 #[]).run Try.prog w = .ok (.slice (some ⟨w.heap.size, 0, none⟩) 0 0) (w.alloc (.cells #[] 5)) := by kernel_rfl

set_option maxRecDepth 100000 in
set_option maxHeartbeats 1000000 in
theorem clone_any (a : Option Addr) (n c : Nat) (l : List UInt8) (w : World) (hb : BI w a n l) (hac : a = none → c = 0) (hn : n ≤ 140737488355328) :
    Calls Try.prog 33 #[.slice a n c] w fun x w' => ∃ v, x = .returned v ∧ OwnB w' v l ∧ Fr w w' (fun _ => False) ∧ ∀ q, v.ownBlock = some q → w.heap.size ≤ q := by
  cases a with
  | none =>
    obtain rfl : c = 0 := hac rfl
    have hn0 : n = 0 := hb.2.elim id (by rintro ⟨g, off, h1, _⟩; cases h1)
    have hl : l = [] := List.length_eq_zero_iff.1 (by rw [hb.1, hn0])
    subst hn0
    have HL := hide hl
    have heq := fun w1 => run_eql_nil45 w1 none 0 0
    clear hb hl
    go_enter Try.func33, Try.ntmps33
    go_wp2
    go_ret
    exact ⟨_, rfl, by rw [HL.out]; exact OwnB.nil _, Fr.refl _ _, by simp [Value.ownBlock]⟩
  | some ad =>
    have FA := Fr.alloc w (.cells #[] 5) (fun _ => False)
    have HB := hide (hb.fr FA (fun _ _ _ _ h => h))
    have HF := hide FA
    have HO := hide (own_empty w)
    have HLN := hide hb.1
    have heq := fun w1 => run_eql_nil45 w1 (some ad) n c
    have hem := empty45
    have hsz : (w.alloc (.cells #[] 5)).heap.size = w.heap.size + 1 := by simp
    clear hb FA
    go_enter Try.func33, Try.ntmps33
    go_wp2_with (refine wpList_pushAll rfl (.tmp 5) (.tmp 6) rfl _ _ rfl HO.out (some ad) n c l rfl HB.out (fun h => by cases h) (by simp; omega) ?_; intro v2 W2 o2 f2 r2; have HO2 := hide o2; have HF2 := hide f2; have HR2 := hide r2; clear o2 f2 r2)
    go_ret
    refine ⟨_, rfl, HO2.out, (HF.out.trans HF2.out).mono (fun q hq h => ?_), ?_⟩
    · rcases h with h | h
      · exact h
      · have := Option.some.inj h; simp only [] at this; omega
    · exact HR2.out.le (by rw [hsz]; omega) (fun q hq => by have := Option.some.inj hq; simp only [] at this; omega)


theorem bi_nil (w : World) : BI w none 0 [] := ⟨rfl, .inl rfl⟩
/-- A record's sum. -/
def sealN (s at_ : Nat) (l : List UInt8) : Nat := crc (numB s 4 ++ numB at_ 8 ++ l)
theorem sealN_lt (s at_ : Nat) (l : List UInt8) : sealN s at_ l < 4294967296 := crc_lt _

set_option maxRecDepth 100000 in
set_option maxHeartbeats 2000000 in
theorem sumOf_any (s at_ : Nat) (hs : s < 4294967296) (hat : at_ < 9223372036854775808) (a : Option Addr) (n c : Nat) (l : List UInt8) (w : World) (hb : BI w a n l) (hn : n ≤ 140737488355328) :
    Calls Try.prog 64 #[.int .u32 s, .int .i64 at_, .slice a n c] w fun e w' => e = .returned (.int .u32 (sealN s at_ l)) ∧ Fr w w' (fun _ => False) := by
  have HB := hide hb
  have w0 : IntKind.u64.wrap (s : Int) = s := by rw [IntKind.wrap_u64]; omega
  have w1 : IntKind.u64.wrap (at_ : Int) = at_ := by rw [IntKind.wrap_u64]; omega
  clear hb
  go_enter Try.func64, Try.ntmps64
  go_wp2_with fail
  refine (put_any none 0 0 [] s 4 4 (by rfl) w (bi_nil _) (fun _ => rfl) (by omega)).mono ?_
  rintro x W1 ⟨v1, rfl, o1, f1, x1⟩
  obtain ⟨a1, c1, hv1⟩ := o1.shape
  subst hv1
  have hl1 : ([] ++ numB s 4 : List UInt8).length = 4 := by simp [length_numB]
  rw [hl1] at o1 ⊢
  have HO1 := hide o1
  have HF1 := hide f1
  clear o1 f1 x1 hl1
  go_wp2_with fail
  refine (put_any none 0 0 [] at_ 8 8 (by rfl) W1 (bi_nil _) (fun _ => rfl) (by omega)).mono ?_
  rintro x W2 ⟨v2, rfl, o2, f2, x2⟩
  obtain ⟨a2, c2, hv2⟩ := o2.shape
  subst hv2
  have hl2 : ([] ++ numB at_ 8 : List UInt8).length = 8 := by simp [length_numB]
  rw [hl2] at o2 ⊢
  have HO2 := hide o2
  have HB1 := hide (HO1.out.bi.fr f2 (fun _ _ _ _ h => h))
  have HF2 := hide ((HF1.out.trans f2).mono (Y := fun _ => False) (by simp))
  clear o2 f2 x2 hl2 HO1 HF1
  go_wp2_with fail
  have FA := Fr.alloc W2 (.cells #[.slice a1 4 c1, .slice a2 8 c2, .slice a n c] 45) (fun _ => False)
  have hp : Parts (W2.alloc (.cells #[.slice a1 4 c1, .slice a2 8 c2, .slice a n c] 45)) (some ⟨W2.heap.size, 0, none⟩) [numB s 4, numB at_ 8, l] := by
    have hh := heap_alloc_new W2 (.cells #[.slice a1 4 c1, .slice a2 8 c2, .slice a n c] 45)
    refine .inr ⟨_, 0, rfl, fun j x hj => ?_⟩
    match j, hj with
    | 0, hj =>
      simp only [List.getElem?_cons_zero, Option.some.injEq] at hj
      subst hj
      exact ⟨a1, 4, c1, by rw [cell_of_row _ _ _ _ _ _ hh]; rfl, HB1.out.fr FA (fun _ _ _ _ h => h), by omega⟩
    | 1, hj =>
      simp only [List.getElem?_cons_succ, List.getElem?_cons_zero, Option.some.injEq] at hj
      subst hj
      exact ⟨a2, 8, c2, by rw [cell_of_row _ _ _ _ _ _ hh]; rfl, HO2.out.bi.fr FA (fun _ _ _ _ h => h), by omega⟩
    | 2, hj =>
      simp only [List.getElem?_cons_succ, List.getElem?_cons_zero, Option.some.injEq] at hj
      subst hj
      exact ⟨a, n, c, by rw [cell_of_row _ _ _ _ _ _ hh]; rfl, (HB.out.fr HF2.out (fun _ _ _ _ h => h)).fr FA (fun _ _ _ _ h => h), by omega⟩
    | j + 3, hj => simp at hj
  have hsum := sum_any (some ⟨W2.heap.size, 0, none⟩) 3 [numB s 4, numB at_ 8, l] _ hp (by simp)
  have HFA := hide ((HF2.out.trans FA).mono (Y := fun _ => False) (by simp))
  clear FA hp
  refine hsum.mono ?_
  rintro x W3 ⟨rfl, rfl⟩
  have HS := hide (show crc [numB s 4, numB at_ 8, l].flatten = sealN s at_ l by simp [sealN])
  rw [HS.out]
  clear hsum HB1 HO2 HF2
  go_wp2
  go_ret
  exact ⟨rfl, HFA.out⟩
end Go.Proofs.Ytpjelmlbikmddaa
