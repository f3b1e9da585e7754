/-
  NARROWER THAN 'FOR EVERY INPUT', by the rows' own cells (each row's printed sentence says how): PeriodRelates: laid · PeriodTurns: laid · PeriodMoves: laid.
  DERIVED. THE GIVEN ROWS OF THIS SEAT. 3 by the template 'for every input the law returns true; each argument reads behind the call as it read before'; 0 by the template 'total and deterministic' (their statements: YtbdpdobaacbkkaaDoorTotals.lean).
  GIVEN WITH THE SEED: the statements are not yours to turn. If you find one false, say at which input.
  Laid BY PROGRAM, IN A SANDBOX (cutbox-rows.mjs): the forced cells as the released guide's own fill.sh prints them over the translation 36eaf748c24bc708… (all of the seat's roots in one cut). By AI agents, Wed Nov 11 2026. No macro, syntax, notation, axiom, sorry.
-/
import Derived.Test.YtbdpdobaacbkkaaDoorChecked
import GoSem.Claim
import GoSem.ClaimJoined
import GoSem.ClaimMapViews
import Derived.JoinedTies
import Derived.KernelRfl
namespace Go.Proofs.YtbdpdobaacbkkaaDoor
/- THE CELL 'sum', in the pinned program and in every row, IS THE sha256 OF THE DUMP (.gsa) THAT YtbdpdobaacbkkaaDoorProg.lean LOADS. Nothing in Lean hashes anything: it is a label: what it is worth is what the hold of that sum in a sandbox is worth. -/
noncomputable def Tryd.pinned : Pinned := { name := "ytbdpdobaacbkkaadoor", sum := "36eaf748c24bc708086bccdfb068b4d92240e7c572804e099e8681668e3903a6", checked := Tryd.checked }
namespace Rows
def none {H : Type} : Left H := { results := [], args := [] }

/- WHAT THE LISTED PACKAGE-LEVEL VARIABLES READ AS WHEN THE CALL BEGINS. Each datum BY PROGRAM (the guide's laid-datum.mjs) off the statement by which the dump's own 'gosem.cut.vars' lays the variable. In a bare row this is a premise. The card (YtbdpdobaacbkkaaDoorCards.lean) ties it to the program's text. -/
def laid_annals_period_shared {H : Type} : DataW H := .agg [.agg [.lit (.int .i64 3), .lit (.int .i64 8), .lit (.int .i64 9)], .agg [.lit (.int .i64 4), .lit (.int .i64 7), .lit (.int .i64 10)], .agg [.lit (.int .i64 5), .lit (.int .i64 6), .lit (.int .i64 11)]]

/-- 'annalslaw04.PeriodRelates': WHATEVER THE INPUT: true; the input reads as it did. -/
def periodRelatesSpec : ChangeSpec := { name := "periodRelates", fn := fun _ => fun
  | [d1, d2, d3] => { results := [.lit (.bool true)], args := [d1, d2, d3] }
  | _ => none }
def periodRelatesRow : OpenClaim := { program := "ytbdpdobaacbkkaadoor", sum := "36eaf748c24bc708086bccdfb068b4d92240e7c572804e099e8681668e3903a6", func := "annals/annalslaw04.PeriodRelates", spec := "periodRelates", unfollowed := true, recurses := true, named := ["annals/period.shared"], apart := false, laid := [("annals/period.shared", laid_annals_period_shared)] }
def PeriodRelatesSaid : Prop := periodRelatesRow.holds Tryd.pinned (OpenSpec.ofChange periodRelatesSpec)

/-- ITS FALSE NEIGHBOUR: 'it returns false'. Refute it at one input. -/
def periodRelatesWrong : ChangeSpec := { name := "periodRelates", fn := fun _ => fun
  | [d1, d2, d3] => { results := [.lit (.bool false)], args := [d1, d2, d3] }
  | _ => none }
def PeriodRelatesWrongFalsely : Prop := periodRelatesRow.holds Tryd.pinned (OpenSpec.ofChange periodRelatesWrong)

/-- 'annalslaw04.PeriodTurns': WHATEVER THE INPUT: true; the input reads as it did. -/
def periodTurnsSpec : ChangeSpec := { name := "periodTurns", fn := fun _ => fun
  | [d1, d2, d3] => { results := [.lit (.bool true)], args := [d1, d2, d3] }
  | _ => none }
def periodTurnsRow : OpenClaim := { program := "ytbdpdobaacbkkaadoor", sum := "36eaf748c24bc708086bccdfb068b4d92240e7c572804e099e8681668e3903a6", func := "annals/annalslaw04.PeriodTurns", spec := "periodTurns", unfollowed := true, recurses := true, named := ["annals/period.shared"], apart := false, laid := [("annals/period.shared", laid_annals_period_shared)] }
def PeriodTurnsSaid : Prop := periodTurnsRow.holds Tryd.pinned (OpenSpec.ofChange periodTurnsSpec)

/-- ITS FALSE NEIGHBOUR: 'it returns false'. Refute it at one input. -/
def periodTurnsWrong : ChangeSpec := { name := "periodTurns", fn := fun _ => fun
  | [d1, d2, d3] => { results := [.lit (.bool false)], args := [d1, d2, d3] }
  | _ => none }
def PeriodTurnsWrongFalsely : Prop := periodTurnsRow.holds Tryd.pinned (OpenSpec.ofChange periodTurnsWrong)

/-- 'annalslaw04.PeriodMoves': WHATEVER THE INPUT: true; the input reads as it did. -/
def periodMovesSpec : ChangeSpec := { name := "periodMoves", fn := fun _ => fun
  | [d1, d2, d3] => { results := [.lit (.bool true)], args := [d1, d2, d3] }
  | _ => none }
def periodMovesRow : OpenClaim := { program := "ytbdpdobaacbkkaadoor", sum := "36eaf748c24bc708086bccdfb068b4d92240e7c572804e099e8681668e3903a6", func := "annals/annalslaw04.PeriodMoves", spec := "periodMoves", unfollowed := true, recurses := true, named := ["annals/period.shared"], apart := false, laid := [("annals/period.shared", laid_annals_period_shared)] }
def PeriodMovesSaid : Prop := periodMovesRow.holds Tryd.pinned (OpenSpec.ofChange periodMovesSpec)

/-- ITS FALSE NEIGHBOUR: 'it returns false'. Refute it at one input. -/
def periodMovesWrong : ChangeSpec := { name := "periodMoves", fn := fun _ => fun
  | [d1, d2, d3] => { results := [.lit (.bool false)], args := [d1, d2, d3] }
  | _ => none }
def PeriodMovesWrongFalsely : Prop := periodMovesRow.holds Tryd.pinned (OpenSpec.ofChange periodMovesWrong)

/- THE SECOND FORM. 'bulk': how many values and letters a reading holds, each counted each time it is reached (what is shared counts as often as it is met; a slice's spare places count too). A statement '..UptoSaid' is the law's where the arguments, and the package variables that the reading takes, are together of bulk at most 1048576: NARROWER than '..Said'. Prove '..Said' where nothing that the law and all that it calls make is longer than what came in: it says more and counts as full. Else prove '..UptoSaid'. A law counts once. -/
mutual
def uptoBulk {H : Type} : DataW H → Nat
  | .lit (.string bytes) => bytes.length + 1
  | .lit _ => 1
  | .nil => 1
  | .ptr d => uptoBulk d + 1
  | .slice elems spare => uptoBulkAll elems + uptoBulkAll spare + 1
  | .agg parts => uptoBulkAll parts + 1
  | .iface _ d => uptoBulk d + 1
  | .map entries => uptoBulkEntries entries + 1
  | .held _ => 1
def uptoBulkAll {H : Type} : List (DataW H) → Nat
  | [] => 0
  | d :: r => uptoBulk d + uptoBulkAll r
def uptoBulkEntries {H : Type} : List (Lit × DataW H) → Nat
  | [] => 0
  | x :: r => uptoBulkEntry x + uptoBulkEntries r
def uptoBulkEntry {H : Type} : Lit × DataW H → Nat
  | (.string bytes, d) => bytes.length + uptoBulk d + 1
  | (_, d) => uptoBulk d + 1
 end
def uptoSmall : (H : Type) → List (DataW H) → Bool := fun _ ds => decide (uptoBulkAll ds ≤ 1048576)
def OpenSpec.upto (s : _root_.Go.ChangeSpec) : _root_.Go.OpenSpec := { _root_.Go.OpenSpec.ofChange s with cond := some uptoSmall }

/-- 'annalslaw04.PeriodRelates', WHERE WHAT IT READS IS OF BULK AT MOST 1048576: true; the input reads as it did. -/
def periodRelatesUptoRow : OpenClaim := { program := "ytbdpdobaacbkkaadoor", sum := "36eaf748c24bc708086bccdfb068b4d92240e7c572804e099e8681668e3903a6", func := "annals/annalslaw04.PeriodRelates", spec := "periodRelates", unfollowed := true, recurses := true, named := ["annals/period.shared"], apart := false, laid := [("annals/period.shared", laid_annals_period_shared)], narrowed := true }
def PeriodRelatesUptoSaid : Prop := periodRelatesUptoRow.holds Tryd.pinned (OpenSpec.upto periodRelatesSpec)

/-- 'annalslaw04.PeriodTurns', WHERE WHAT IT READS IS OF BULK AT MOST 1048576: true; the input reads as it did. -/
def periodTurnsUptoRow : OpenClaim := { program := "ytbdpdobaacbkkaadoor", sum := "36eaf748c24bc708086bccdfb068b4d92240e7c572804e099e8681668e3903a6", func := "annals/annalslaw04.PeriodTurns", spec := "periodTurns", unfollowed := true, recurses := true, named := ["annals/period.shared"], apart := false, laid := [("annals/period.shared", laid_annals_period_shared)], narrowed := true }
def PeriodTurnsUptoSaid : Prop := periodTurnsUptoRow.holds Tryd.pinned (OpenSpec.upto periodTurnsSpec)

/-- 'annalslaw04.PeriodMoves', WHERE WHAT IT READS IS OF BULK AT MOST 1048576: true; the input reads as it did. -/
def periodMovesUptoRow : OpenClaim := { program := "ytbdpdobaacbkkaadoor", sum := "36eaf748c24bc708086bccdfb068b4d92240e7c572804e099e8681668e3903a6", func := "annals/annalslaw04.PeriodMoves", spec := "periodMoves", unfollowed := true, recurses := true, named := ["annals/period.shared"], apart := false, laid := [("annals/period.shared", laid_annals_period_shared)], narrowed := true }
def PeriodMovesUptoSaid : Prop := periodMovesUptoRow.holds Tryd.pinned (OpenSpec.upto periodMovesSpec)

end Rows
end Go.Proofs.YtbdpdobaacbkkaaDoor
