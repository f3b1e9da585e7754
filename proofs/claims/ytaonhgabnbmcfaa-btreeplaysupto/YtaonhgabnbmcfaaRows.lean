/-
  No cell of these rows narrows 'for every input' (looked for: loops, veiled, ifaces, maps, wideKeys, modest, calm, conditions, laid).
  DERIVED. THE GIVEN ROWS OF THIS SEAT. 4 by the template 'for every input the law returns true; each argument reads behind the call as it read before'; 0 by the template 'total and deterministic' (their statements: YtaonhgabnbmcfaaTotals.lean).
  GIVEN WITH THE SEED: the statements are not yours to turn. If you find one false, say at which input.
  Laid BY PROGRAM, IN A SANDBOX (cutbox-rows.mjs): the forced cells as the released guide's own fill.sh prints them over the translation 1a9cadf224707a5e… (all of the seat's roots in one cut). By AI agents, Wed Nov 11 2026. No macro, syntax, notation, axiom, sorry.
-/
import Derived.Test.YtaonhgabnbmcfaaChecked
import GoSem.Claim
import GoSem.ClaimJoined
import GoSem.ClaimMapViews
import Derived.JoinedTies
import Derived.KernelRfl
namespace Go.Proofs.Ytaonhgabnbmcfaa
/- THE CELL 'sum', in the pinned program and in every row, IS THE sha256 OF THE DUMP (.gsa) THAT YtaonhgabnbmcfaaProg.lean LOADS. Nothing in Lean hashes anything: it is a label: what it is worth is what the hold of that sum in a sandbox is worth. -/
noncomputable def Try.pinned : Pinned := { name := "ytaonhgabnbmcfaa", sum := "1a9cadf224707a5edd557160e793848a85752da33fcb36c2bf9c92a8603eab97", checked := Try.checked }
namespace Rows
def none {H : Type} : Left H := { results := [], args := [] }

/-- 'annalslaw09.BtreePlays': WHATEVER THE INPUT: true; the input reads as it did. -/
def btreePlaysSpec : ChangeSpec := { name := "btreePlays", fn := fun _ => fun
  | [d1, d2] => { results := [.lit (.bool true)], args := [d1, d2] }
  | _ => none }
def btreePlaysRow : OpenClaim := { program := "ytaonhgabnbmcfaa", sum := "1a9cadf224707a5edd557160e793848a85752da33fcb36c2bf9c92a8603eab97", func := "annals/annalslaw09.BtreePlays", spec := "btreePlays", inPlace := ["internal/bytealg.abigen_runtime_cmpstring", "slices.overlaps[annals/btree.item]", "slices.overlaps[*annals/btree.node]"], unfollowed := true, recurses := true, apart := false }
def BtreePlaysSaid : Prop := btreePlaysRow.holds Try.pinned (OpenSpec.ofChange btreePlaysSpec)

/-- ITS FALSE NEIGHBOUR: 'it returns false'. Refute it at one input. -/
def btreePlaysWrong : ChangeSpec := { name := "btreePlays", fn := fun _ => fun
  | [d1, d2] => { results := [.lit (.bool false)], args := [d1, d2] }
  | _ => none }
def BtreePlaysWrongFalsely : Prop := btreePlaysRow.holds Try.pinned (OpenSpec.ofChange btreePlaysWrong)

/-- 'annalslaw09.BtreeAlike': WHATEVER THE INPUT: true; the input reads as it did. -/
def btreeAlikeSpec : ChangeSpec := { name := "btreeAlike", fn := fun _ => fun
  | [d1, d2, d3] => { results := [.lit (.bool true)], args := [d1, d2, d3] }
  | _ => none }
def btreeAlikeRow : OpenClaim := { program := "ytaonhgabnbmcfaa", sum := "1a9cadf224707a5edd557160e793848a85752da33fcb36c2bf9c92a8603eab97", func := "annals/annalslaw09.BtreeAlike", spec := "btreeAlike", inPlace := ["internal/bytealg.abigen_runtime_cmpstring", "slices.overlaps[annals/btree.item]", "slices.overlaps[*annals/btree.node]"], unfollowed := true, recurses := true, apart := false }
def BtreeAlikeSaid : Prop := btreeAlikeRow.holds Try.pinned (OpenSpec.ofChange btreeAlikeSpec)

/-- ITS FALSE NEIGHBOUR: 'it returns false'. Refute it at one input. -/
def btreeAlikeWrong : ChangeSpec := { name := "btreeAlike", fn := fun _ => fun
  | [d1, d2, d3] => { results := [.lit (.bool false)], args := [d1, d2, d3] }
  | _ => none }
def BtreeAlikeWrongFalsely : Prop := btreeAlikeRow.holds Try.pinned (OpenSpec.ofChange btreeAlikeWrong)

/-- 'annalslaw09.BtreeRanges': WHATEVER THE INPUT: true; the input reads as it did. -/
def btreeRangesSpec : ChangeSpec := { name := "btreeRanges", fn := fun _ => fun
  | [d1, d2, d3] => { results := [.lit (.bool true)], args := [d1, d2, d3] }
  | _ => none }
def btreeRangesRow : OpenClaim := { program := "ytaonhgabnbmcfaa", sum := "1a9cadf224707a5edd557160e793848a85752da33fcb36c2bf9c92a8603eab97", func := "annals/annalslaw09.BtreeRanges", spec := "btreeRanges", inPlace := ["internal/bytealg.abigen_runtime_cmpstring", "slices.overlaps[annals/btree.item]", "slices.overlaps[*annals/btree.node]"], unfollowed := true, recurses := true, apart := false }
def BtreeRangesSaid : Prop := btreeRangesRow.holds Try.pinned (OpenSpec.ofChange btreeRangesSpec)

/-- ITS FALSE NEIGHBOUR: 'it returns false'. Refute it at one input. -/
def btreeRangesWrong : ChangeSpec := { name := "btreeRanges", fn := fun _ => fun
  | [d1, d2, d3] => { results := [.lit (.bool false)], args := [d1, d2, d3] }
  | _ => none }
def BtreeRangesWrongFalsely : Prop := btreeRangesRow.holds Try.pinned (OpenSpec.ofChange btreeRangesWrong)

/-- 'annalslaw09.BtreeDrains': WHATEVER THE INPUT: true; the input reads as it did. -/
def btreeDrainsSpec : ChangeSpec := { name := "btreeDrains", fn := fun _ => fun
  | [d1, d2, d3] => { results := [.lit (.bool true)], args := [d1, d2, d3] }
  | _ => none }
def btreeDrainsRow : OpenClaim := { program := "ytaonhgabnbmcfaa", sum := "1a9cadf224707a5edd557160e793848a85752da33fcb36c2bf9c92a8603eab97", func := "annals/annalslaw09.BtreeDrains", spec := "btreeDrains", inPlace := ["internal/bytealg.abigen_runtime_cmpstring", "slices.overlaps[annals/btree.item]", "slices.overlaps[*annals/btree.node]"], unfollowed := true, recurses := true, apart := false }
def BtreeDrainsSaid : Prop := btreeDrainsRow.holds Try.pinned (OpenSpec.ofChange btreeDrainsSpec)

/-- ITS FALSE NEIGHBOUR: 'it returns false'. Refute it at one input. -/
def btreeDrainsWrong : ChangeSpec := { name := "btreeDrains", fn := fun _ => fun
  | [d1, d2, d3] => { results := [.lit (.bool false)], args := [d1, d2, d3] }
  | _ => none }
def BtreeDrainsWrongFalsely : Prop := btreeDrainsRow.holds Try.pinned (OpenSpec.ofChange btreeDrainsWrong)

/- THE SECOND FORM. 'bulk': how many values and letters a reading holds, each counted each time it is reached (what is shared counts as often as it is met; a slice's spare places count too). A statement '..UptoSaid' is the law's where the arguments, and the package variables that the reading takes, are together of bulk at most 1048576: NARROWER than '..Said'. Prove '..Said' where nothing that the law and all that it calls make is longer than what came in: it says more and counts as full. Else prove '..UptoSaid'. A law counts once. -/
mutual
def uptoBulk {H : Type} : DataW H → Nat
  | .lit (.string bytes) => bytes.length + 1
  | .lit _ => 1
  | .nil => 1
  | .ptr d => uptoBulk d + 1
  | .slice elems spare => uptoBulkAll elems + uptoBulkAll spare + 1
  | .agg parts => uptoBulkAll parts + 1
  | .iface _ d => uptoBulk d + 1
  | .map entries => uptoBulkEntries entries + 1
  | .held _ => 1
def uptoBulkAll {H : Type} : List (DataW H) → Nat
  | [] => 0
  | d :: r => uptoBulk d + uptoBulkAll r
def uptoBulkEntries {H : Type} : List (Lit × DataW H) → Nat
  | [] => 0
  | x :: r => uptoBulkEntry x + uptoBulkEntries r
def uptoBulkEntry {H : Type} : Lit × DataW H → Nat
  | (.string bytes, d) => bytes.length + uptoBulk d + 1
  | (_, d) => uptoBulk d + 1
 end
def uptoSmall : (H : Type) → List (DataW H) → Bool := fun _ ds => decide (uptoBulkAll ds ≤ 1048576)
def OpenSpec.upto (s : _root_.Go.ChangeSpec) : _root_.Go.OpenSpec := { _root_.Go.OpenSpec.ofChange s with cond := some uptoSmall }

/-- 'annalslaw09.BtreePlays', WHERE WHAT IT READS IS OF BULK AT MOST 1048576: true; the input reads as it did. -/
def btreePlaysUptoRow : OpenClaim := { program := "ytaonhgabnbmcfaa", sum := "1a9cadf224707a5edd557160e793848a85752da33fcb36c2bf9c92a8603eab97", func := "annals/annalslaw09.BtreePlays", spec := "btreePlays", inPlace := ["internal/bytealg.abigen_runtime_cmpstring", "slices.overlaps[annals/btree.item]", "slices.overlaps[*annals/btree.node]"], unfollowed := true, recurses := true, apart := false, narrowed := true }
def BtreePlaysUptoSaid : Prop := btreePlaysUptoRow.holds Try.pinned (OpenSpec.upto btreePlaysSpec)

/-- 'annalslaw09.BtreeAlike', WHERE WHAT IT READS IS OF BULK AT MOST 1048576: true; the input reads as it did. -/
def btreeAlikeUptoRow : OpenClaim := { program := "ytaonhgabnbmcfaa", sum := "1a9cadf224707a5edd557160e793848a85752da33fcb36c2bf9c92a8603eab97", func := "annals/annalslaw09.BtreeAlike", spec := "btreeAlike", inPlace := ["internal/bytealg.abigen_runtime_cmpstring", "slices.overlaps[annals/btree.item]", "slices.overlaps[*annals/btree.node]"], unfollowed := true, recurses := true, apart := false, narrowed := true }
def BtreeAlikeUptoSaid : Prop := btreeAlikeUptoRow.holds Try.pinned (OpenSpec.upto btreeAlikeSpec)

/-- 'annalslaw09.BtreeRanges', WHERE WHAT IT READS IS OF BULK AT MOST 1048576: true; the input reads as it did. -/
def btreeRangesUptoRow : OpenClaim := { program := "ytaonhgabnbmcfaa", sum := "1a9cadf224707a5edd557160e793848a85752da33fcb36c2bf9c92a8603eab97", func := "annals/annalslaw09.BtreeRanges", spec := "btreeRanges", inPlace := ["internal/bytealg.abigen_runtime_cmpstring", "slices.overlaps[annals/btree.item]", "slices.overlaps[*annals/btree.node]"], unfollowed := true, recurses := true, apart := false, narrowed := true }
def BtreeRangesUptoSaid : Prop := btreeRangesUptoRow.holds Try.pinned (OpenSpec.upto btreeRangesSpec)

/-- 'annalslaw09.BtreeDrains', WHERE WHAT IT READS IS OF BULK AT MOST 1048576: true; the input reads as it did. -/
def btreeDrainsUptoRow : OpenClaim := { program := "ytaonhgabnbmcfaa", sum := "1a9cadf224707a5edd557160e793848a85752da33fcb36c2bf9c92a8603eab97", func := "annals/annalslaw09.BtreeDrains", spec := "btreeDrains", inPlace := ["internal/bytealg.abigen_runtime_cmpstring", "slices.overlaps[annals/btree.item]", "slices.overlaps[*annals/btree.node]"], unfollowed := true, recurses := true, apart := false, narrowed := true }
def BtreeDrainsUptoSaid : Prop := btreeDrainsUptoRow.holds Try.pinned (OpenSpec.upto btreeDrainsSpec)

end Rows
end Go.Proofs.Ytaonhgabnbmcfaa
