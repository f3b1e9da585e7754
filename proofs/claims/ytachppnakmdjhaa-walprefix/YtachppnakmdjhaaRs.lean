/- The document's Seal, Add and sector. -/
import Derived.Test.YtachppnakmdjhaaZs
namespace Go.Proofs.Ytachppnakmdjhaa
open Go.RowKit
set_option linter.unusedVariables false

/-- The document's log. -/
def logV (St : List UInt8) (sum dur first count : Nat) : Value := .agg #[.string (strOf St), .int .u32 (sum : Int), .int .i64 (dur : Int), .int .i64 (first : Int), .int .i64 (count : Int)]
/-- A box of five cells. -/
structure Five (w : World) (g : Nat) (x0 x1 x2 x3 x4 : Value) : Prop where
  c0 : w.cell? ⟨g, 0, none⟩ = some x0
  c1 : w.cell? ⟨g, 1, none⟩ = some x1
  c2 : w.cell? ⟨g, 2, none⟩ = some x2
  c3 : w.cell? ⟨g, 3, none⟩ = some x3
  c4 : w.cell? ⟨g, 4, none⟩ = some x4
  z : ∀ j, w.frozen? ⟨g, j, none⟩ = false
theorem five_of {w : World} {g : Nat} {x0 x1 x2 x3 x4 : Value} {t : TypeId} (h : w.heap[g]? = some (.cells #[x0, x1, x2, x3, x4] t (0, 0))) : Five w g x0 x1 x2 x3 x4 := by
  refine ⟨?_, ?_, ?_, ?_, ?_, ?_⟩
  all_goals first | (rw [cell_of_row _ _ _ _ _ _ h]; rfl) | (intro j; simp [World.frozen?, h])
theorem Five.fr {w w' : World} {X : Nat → Prop} {g : Nat} {x0 x1 x2 x3 x4 : Value} (h : Five w g x0 x1 x2 x3 x4) (hf : Fr w w' X) (hx : ¬ X g) : Five w' g x0 x1 x2 x3 x4 := by
  have hb := hf.block g (World.block_lt_of_cell? w _ h.c0) hx
  exact ⟨by rw [World.cell?_of_block (w := w) hb]; exact h.c0, by rw [World.cell?_of_block (w := w) hb]; exact h.c1, by rw [World.cell?_of_block (w := w) hb]; exact h.c2, by rw [World.cell?_of_block (w := w) hb]; exact h.c3, by rw [World.cell?_of_block (w := w) hb]; exact h.c4, fun j => by rw [World.frozen?_of_block (w := w) hb]; exact h.z j⟩
theorem Five.range {w : World} {g : Nat} {x0 x1 x2 x3 x4 : Value} (h : Five w g x0 x1 x2 x3 x4) : w.rangeAt g 0 [x0, x1, x2, x3, x4] := by
  intro j v hv
  match j, hv with
  | 0, hv => cases hv; exact h.c0
  | 1, hv => cases hv; exact h.c1
  | 2, hv => cases hv; exact h.c2
  | 3, hv => cases hv; exact h.c3
  | 4, hv => cases hv; exact h.c4
  | n + 5, hv => simp at hv
theorem info40 : (Try.prog.info? 40).map (·.size) = some 5 := by kernel_rfl
theorem results_five2 {fn : Func} {p r : Tmp} (h : fn.results = #[.cell p 40, .tmp r]) (tmps : Array Value) (w : World) (g : Nat) {x0 x1 x2 x3 x4 z : Value} (ht : Five w g x0 x1 x2 x3 x4) (hp : tmps.getD p undef = .pointer (some ⟨g, 0, none⟩)) (hr : tmps.getD r undef = z) : (results fn tmps).run Try.prog w = .ok (.tuple #[.agg #[x0, x1, x2, x3, x4], z]) w := by
  have hp' : tmps[p]?.getD undef = .pointer (some ⟨g, 0, none⟩) := by simpa using hp
  have hr' : tmps[r]?.getD undef = z := by simpa using hr
  simp [results, h, hp', hr', asAddr, run_loadVar_mid (P := Try.prog) w g 0 40 [x0, x1, x2, x3, x4] _ ht.range Try.underlying40 rfl info40]

set_option maxRecDepth 100000 in
set_option maxHeartbeats 1000000 in
theorem seal_ref (s at_ : Nat) (hs : s < 4294967296) (ha : at_ ≤ 1099511627776) (d : List UInt8) (hd : d.length ≤ 1099511627776) (w : World) :
    Calls Try.prog 43 #[.int .u32 (s : Int), .int .i64 (at_ : Int), .string (strOf d)] w fun e w' => e = .returned (.int .u32 ((sealN s at_ d : Nat) : Int)) ∧ Fr w w' (fun _ => False) := by
  have w1 : IntKind.u64.wrap (s : Int) = (s : Int) := by rw [IntKind.wrap_u64]; omega
  have w2 : IntKind.u64.wrap (at_ : Int) = (at_ : Int) := by rw [IntKind.wrap_u64]; omega
  have ec1 := fun (W : World) => run_string_add_sum (P := Try.prog) W (strOf (numB s 4)) (strOf (numB at_ 8)) (by rw [size_strOf, size_strOf, length_numB, length_numB]; omega)
  have ec2 := fun (W : World) => run_string_add_sum (P := Try.prog) W (strOf (numB s 4 ++ numB at_ 8)) (strOf d) (by rw [size_strOf, size_strOf, List.length_append, length_numB, length_numB]; omega)
  simp only [strOf_append] at ec1 ec2
  go_enter Try.func43, Try.ntmps43
  go_wp2_with fail
  refine (number_ref s (by omega) 4 4 (by rfl) w).mono ?_
  rintro x W1 ⟨rfl, f1⟩
  go_wp2_with fail
  refine (number_ref at_ (by omega) 8 8 (by rfl) W1).mono ?_
  rintro x W2 ⟨rfl, f2⟩
  have HF2 := hide ((f1.trans f2).mono (Y := fun _ => False) (by simp))
  clear f1 f2
  go_wp2_with fail
  refine (refSum_any (numB s 4 ++ numB at_ 8 ++ d) (by rw [List.length_append, List.length_append, length_numB, length_numB]; omega) W2).mono ?_
  rintro x W3 ⟨rfl, f3⟩
  have HF3 := hide ((HF2.out.trans f3).mono (Y := fun _ => False) (by simp))
  clear f3
  go_wp2
  go_ret
  exact ⟨rfl, HF3.out⟩
end Go.Proofs.Ytachppnakmdjhaa
