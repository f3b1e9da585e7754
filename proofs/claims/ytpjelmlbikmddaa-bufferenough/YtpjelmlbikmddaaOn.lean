/- A log that isn't there is refused. -/
import Derived.Test.YtpjelmlbikmddaaOp
namespace Go.Proofs.Ytpjelmlbikmddaa
open Go.RowKit
set_option maxRecDepth 100000
set_option linter.unusedVariables false

set_option maxRecDepth 100000 in
set_option maxHeartbeats 1000000 in
theorem open_no {w : World} {b gs cs : Nat} {Cs : Array Value} {pv : Value} {S : List (List UInt8)} {L : List (Nat × List UInt8)} (h : DiskIs w b gs cs Cs pv S L) (first count : Int) (hS4 : S.length ≤ 4096) (hc : count ≤ 9223372036854775807) (hbad : first < 0 ∨ count < 1 ∨ (S.length : Int) - count < first) :
    Calls Try.prog 26 #[.pointer (some ⟨b, 0, none⟩), .int .i64 first, .int .i64 count] w fun x w' => x = .returned (.tuple #[.pointer none, .slice none 0 0, .int .i64 1]) ∧ w' = w := by
  have c0 := h.cell0
  have hse := sectors_any b _ _ _ w c0
  clear h
  go_enter Try.func26, Try.ntmps26
  by_cases h1 : first < 0
  · go_wp2
    go_ret3
    exact ⟨rfl, rfl⟩
  by_cases h2 : count < 1
  · go_wp2
    go_ret3
    exact ⟨rfl, rfl⟩
  have h3 : (S.length : Int) - count < first := by omega
  have ws : IntKind.i64.wrap ((S.length : Int) - count) = (S.length : Int) - count := by rw [IntKind.wrap_i64]; omega
  go_wp2_with fail
  refine hse.mono ?_
  rintro x W ⟨rfl, rfl⟩
  go_wp2
  go_ret3
  exact ⟨rfl, rfl⟩
end Go.Proofs.Ytpjelmlbikmddaa
