/-
  DERIVED. GIVEN WITH THE SEED: THE CARDS: each row of YtbdpdobaacbkkaaDoorRows.lean that lists a variable, with what it lists TIED to the program's text (the seventh form; the later family's looks); each row that meets fmt, with fmt's text TOLD by the authors' own Lean function (tested against real Go, not proved from fmt's source: count such statements apart). THE CARD IS WHAT COUNTS. Prove the row's statement (the work); the ties are given (YtbdpdobaacbkkaaDoorTie.lean); close each card by the builder's one call (the guide's Derived/Test/ToyasCard.lean, 'card_holds'). Laid BY PROGRAM, IN A SANDBOX (cutbox-door.mjs). By AI agents, Wed Nov 11 2026. No macro, syntax, notation, axiom, sorry.
-/
import Derived.Test.YtbdpdobaacbkkaaDoorRows
import GoSem.ClaimSeven
namespace Go.Proofs.YtbdpdobaacbkkaaDoor
namespace Rows

/-- THE TIED CARD OF 'annalslaw04.PeriodRelates'. -/
def periodRelatesCard : Claim7 := { stood := { row := periodRelatesRow, standIns := [], harness := (true, "36ad31f7fa658097de901d80cb56dfd83ec46040de059c55e17d94fe141cbec9"), looks := false }, kinds := [], alts := [], laidByText := true, laidKinds := [.data], laidTests := true, laidLooks := .later }
def PeriodRelatesCardSaid : Prop := Claim7.holds Tryd.pinned (.plain (OpenSpec.ofChange periodRelatesSpec)) periodRelatesCard

/-- THE TIED CARD OF 'annalslaw04.PeriodTurns'. -/
def periodTurnsCard : Claim7 := { stood := { row := periodTurnsRow, standIns := [], harness := (true, "36ad31f7fa658097de901d80cb56dfd83ec46040de059c55e17d94fe141cbec9"), looks := false }, kinds := [], alts := [], laidByText := true, laidKinds := [.data], laidTests := true, laidLooks := .later }
def PeriodTurnsCardSaid : Prop := Claim7.holds Tryd.pinned (.plain (OpenSpec.ofChange periodTurnsSpec)) periodTurnsCard

/-- THE TIED CARD OF 'annalslaw04.PeriodMoves'. -/
def periodMovesCard : Claim7 := { stood := { row := periodMovesRow, standIns := [], harness := (true, "36ad31f7fa658097de901d80cb56dfd83ec46040de059c55e17d94fe141cbec9"), looks := false }, kinds := [], alts := [], laidByText := true, laidKinds := [.data], laidTests := true, laidLooks := .later }
def PeriodMovesCardSaid : Prop := Claim7.holds Tryd.pinned (.plain (OpenSpec.ofChange periodMovesSpec)) periodMovesCard

/-- THE SECOND FORM's CARD OF 'annalslaw04.PeriodRelates'. -/
def periodRelatesUptoCard : Claim7 := { stood := { row := periodRelatesUptoRow, standIns := [], harness := (true, "36ad31f7fa658097de901d80cb56dfd83ec46040de059c55e17d94fe141cbec9"), looks := false }, kinds := [], alts := [], laidByText := true, laidKinds := [.data], laidTests := true, laidLooks := .later }
def PeriodRelatesUptoCardSaid : Prop := Claim7.holds Tryd.pinned (.plain (OpenSpec.upto periodRelatesSpec)) periodRelatesUptoCard

/-- THE SECOND FORM's CARD OF 'annalslaw04.PeriodTurns'. -/
def periodTurnsUptoCard : Claim7 := { stood := { row := periodTurnsUptoRow, standIns := [], harness := (true, "36ad31f7fa658097de901d80cb56dfd83ec46040de059c55e17d94fe141cbec9"), looks := false }, kinds := [], alts := [], laidByText := true, laidKinds := [.data], laidTests := true, laidLooks := .later }
def PeriodTurnsUptoCardSaid : Prop := Claim7.holds Tryd.pinned (.plain (OpenSpec.upto periodTurnsSpec)) periodTurnsUptoCard

/-- THE SECOND FORM's CARD OF 'annalslaw04.PeriodMoves'. -/
def periodMovesUptoCard : Claim7 := { stood := { row := periodMovesUptoRow, standIns := [], harness := (true, "36ad31f7fa658097de901d80cb56dfd83ec46040de059c55e17d94fe141cbec9"), looks := false }, kinds := [], alts := [], laidByText := true, laidKinds := [.data], laidTests := true, laidLooks := .later }
def PeriodMovesUptoCardSaid : Prop := Claim7.holds Tryd.pinned (.plain (OpenSpec.upto periodMovesSpec)) periodMovesUptoCard
end Rows
end Go.Proofs.YtbdpdobaacbkkaaDoor
