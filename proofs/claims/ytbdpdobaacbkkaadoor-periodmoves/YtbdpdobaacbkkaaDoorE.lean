/- The walk of periodsOf. -/
import Derived.Test.YtbdpdobaacbkkaaDoorD
namespace Go.Proofs.YtbdpdobaacbkkaaDoor
open Go.RowKit
set_option linter.unusedVariables false

set_option maxRecDepth 100000 in
set_option maxHeartbeats 1000000 in
theorem periodsOf_any (a : Option Addr) (c : Nat) (L : List Per) (w : World) (hv : Pers w a L) (hL : L.length ≤ 8796093022000) :
    Calls Tryd.prog 20 #[.slice a L.length c] w fun e w' => ∃ v, e = .returned v ∧ OwnP w' v (L.filter rightB) ∧ Fr w w' (fun _ => False) ∧ ∀ q, v.ownBlock = some q → w.heap.size ≤ q := by
  have HV := hide hv
  clear hv
  go_enter Tryd.func20, Tryd.ntmps20
  go_wp2_with fail
  refine (without_any a c L _ HV.out hL).mono ?_
  rintro e V ⟨v, rfl, ho, hf, hX⟩
  go_wp2
  go_ret
  exact ⟨_, rfl, ho, hf, hX⟩
end Go.Proofs.YtbdpdobaacbkkaaDoor
