/- plain; the document's Check. -/
import Derived.Test.YtcmabldfegcdaaaJ
namespace Go.Proofs.Ytcmabldfegcdaaa
open Go.RowKit
set_option linter.unusedVariables false

/-- The document's entry. -/
def docV (e : Ent) : Value := .agg #[.int .i64 e.kind, .int .i64 e.txn, .int .i64 e.page, .int .i64 e.slot, .int .i64 e.stamp, .string (strOf e.data)]
abbrev dbox (w : World) (e : Ent) : World := w.alloc (.cells #[.int .i64 e.kind, .int .i64 e.txn, .int .i64 e.page, .int .i64 e.slot, .int .i64 e.stamp, .string (strOf e.data)] 37)
theorem dbox_db (w : World) (e : Ent) : EB (dbox w e) w.heap.size e (.string (strOf e.data)) := six_of (heap_alloc_new w _)
theorem info32 : (Try.prog.info? 37).map (·.size) = some 6 := by kernel_rfl
theorem results_doc1 {fn : Func} {p : Tmp} (h : fn.results = #[.cell p 37]) (tmps : Array Value) (w : World) (g : Nat) {x0 x1 x2 x3 x4 x5 : Value} (ht : Six w g x0 x1 x2 x3 x4 x5) (hp : tmps.getD p undef = .pointer (some ⟨g, 0, none⟩)) :
    (results fn tmps).run Try.prog w = .ok (.agg #[x0, x1, x2, x3, x4, x5]) w := by
  have hp' : tmps[p]?.getD undef = .pointer (some ⟨g, 0, none⟩) := by simpa using hp
  simp [results, h, hp', asAddr, run_loadVar_mid (P := Try.prog) w g 0 37 [x0, x1, x2, x3, x4, x5] _ ht.range Try.underlying37 rfl info32]
theorem results_doc2 {fn : Func} {p q : Tmp} (h : fn.results = #[.cell p 37, .tmp q]) (tmps : Array Value) (w : World) (g : Nat) {x0 x1 x2 x3 x4 x5 : Value} (ht : Six w g x0 x1 x2 x3 x4 x5) (hp : tmps.getD p undef = .pointer (some ⟨g, 0, none⟩)) :
    (results fn tmps).run Try.prog w = .ok (.tuple #[.agg #[x0, x1, x2, x3, x4, x5], tmps.getD q undef]) w := by
  have hp' : tmps[p]?.getD undef = .pointer (some ⟨g, 0, none⟩) := by simpa using hp
  simp [results, h, hp', asAddr, run_loadVar_mid (P := Try.prog) w g 0 37 [x0, x1, x2, x3, x4, x5] _ ht.range Try.underlying37 rfl info32]
/-- Two boxes ahead of plain. -/
def zdoc (w : World) : World := w.alloc (.cells #[.int .i64 0, .int .i64 0, .int .i64 0, .int .i64 0, .int .i64 0, .string ⟨#[]⟩] 37)
theorem zdoc_six (w : World) : Six (zdoc w) w.heap.size (.int .i64 0) (.int .i64 0) (.int .i64 0) (.int .i64 0) (.int .i64 0) (.string ⟨#[]⟩) := six_of (heap_alloc_new w _)
theorem zdoc_fr (w : World) : Fr w (zdoc w) (fun _ => False) := Fr.alloc w _ _

set_option maxRecDepth 100000 in
set_option maxHeartbeats 2000000 in
theorem plain_any (e : Ent) (a : Option Addr) (c : Nat) (w : World) (hb : BI w a e.data.length e.data) : Calls Try.prog 8 #[entV e a c] w fun x w' => x = .returned (docV e) ∧ Fr w w' (fun _ => False) := by
  have HE := hide (ebox_eb w e (.slice a e.data.length c))
  have FA := Fr.alloc w (.cells #[.int .i64 e.kind, .int .i64 e.txn, .int .i64 e.page, .int .i64 e.slot, .int .i64 e.stamp, .slice a e.data.length c] 31) (fun _ => False)
  have FB := zdoc_fr (ebox w e (.slice a e.data.length c))
  have HE2 := hide (HE.out.fr FB (fun h => h))
  have HBI := hide ((hb.fr FA (fun _ _ _ _ h => h)).fr FB (fun _ _ _ _ h => h))
  have HZ := hide (dbox_db (ebox w e (.slice a e.data.length c)) e)
  have HF := hide ((FA.trans (Fr.alloc (ebox w e (.slice a e.data.length c)) (.cells #[.int .i64 e.kind, .int .i64 e.txn, .int .i64 e.page, .int .i64 e.slot, .int .i64 e.stamp, .string (strOf e.data)] 37) (fun _ => False))).mono (Y := fun _ => False) (by simp))
  have hsz : (ebox w e (.slice a e.data.length c)).heap.size = w.heap.size + 1 := by simp
  rw [hsz] at HZ
  have c0 := HE2.out.c0
  have c1 := HE2.out.c1
  have c2 := HE2.out.c2
  have c3 := HE2.out.c3
  have c4 := HE2.out.c4
  have c5 := HE2.out.c5
  unfold zdoc at c0 c1 c2 c3 c4 c5
  unfold zdoc at HBI
  unfold entV docV
  clear FA FB hb HE HE2
  go_enter Try.func8, Try.ntmps8
  go_wp2_with (refine wpList_val rfl 15 rfl (.string (strOf e.data)) _ (exec_string (.tmp 14) rfl rfl HBI.out) ?_)
  exact bodyPost_ret (results_doc1 Try.results8 _ _ (w.heap.size + 1) HZ.out rfl) rfl ⟨rfl, HF.out⟩
end Go.Proofs.Ytcmabldfegcdaaa
