/- What comes in: the listed variables; strings. -/
import Derived.Test.YtackfnojafinpaaDoorK
import Derived.ProofKit
import Derived.OpenShut
import Derived.ChangeOld
import Derived.SizedLaws
import Derived.LaidMore
import Derived.LaidSub
import Derived.Lay
import Derived.Stop.Joined
namespace Go.Proofs.YtackfnojafinpaaDoor
open Go.ChangeShapes Go.WideShapes Go.ChangeAt Go.RowKit
set_option linter.unusedVariables false

theorem own : ownKnob Tryd.prog.godebug = none := by kernel_rfl
theorem laidOut : laidOutB Tryd.prog = true := by kernel_rfl
def laid8 : List (String × DataW Unit) := [("math/bits.deBruijn32tab", Rows.laid_math_bits_deBruijn32tab), ("math/bits.deBruijn64tab", Rows.laid_math_bits_deBruijn64tab), ("internal/strconv.uint64pow10", Rows.laid_internal_strconv_uint64pow10), ("unicode/utf8.acceptRanges", Rows.laid_unicode_utf8_acceptRanges), ("strconv.ErrRange", Rows.laid_strconv_ErrRange), ("strconv.ErrSyntax", Rows.laid_strconv_ErrSyntax), ("unicode.CaseRanges", Rows.laid_unicode_CaseRanges), ("unicode/utf8.first", Rows.laid_unicode_utf8_first)]
theorem gErr : Tryd.prog.globalNamed "strconv.ErrSyntax" = some 1 := by kernel_rfl
theorem tErr : (Tryd.prog.globals[1]?).map (·.type) = some 52 := by kernel_rfl
/-- The variables lie as they are listed: so the library's error does. -/
theorem errs_of_laid {W : World} (h : laidMetH Tryd.prog laid8 W) : Errs W := by
  have h2 := h.filter (fun x => x.1 == "strconv.ErrSyntax")
  have e : laid8.filter (fun x => x.1 == "strconv.ErrSyntax") = [("strconv.ErrSyntax", Rows.laid_strconv_ErrSyntax)] := by
    simp [laid8, List.filter]
  rw [e, MakeChecks.laidMetH_plain _ _ _ (by kernel_rfl)] at h2
  obtain ⟨ps, ⟨g0, t0, cs0, f0, p0, q0, hg0, ht0, hv0, hd0, _⟩, _, _⟩ := h2
  obtain rfl := Option.some.inj (gErr.symm.trans hg0)
  obtain rfl := Option.some.inj (tErr.symm.trans ht0)
  unfold Rows.laid_strconv_ErrSyntax at hd0
  obtain ⟨_, u, v, hcs, _, _⟩ := iface_of_trod Tryd.underlying52 hd0
  refine ⟨u, v, ?_⟩
  have h1 := World.var?_cell hg0 hv0 0
  rw [h1, ← Array.getElem?_toList, hcs]
  rfl
/-- The world that lists them. -/
theorem laid_met (os : Os) (args : Array Value) : laidMetH Tryd.prog laid8 ((World.laidAll Tryd.prog os laid8).forCall (fun _ _ => 0) ⟨#[], args, []⟩).memory := by
  rw [MakeChecks.laidMetH_plain _ _ _ (by kernel_rfl)]
  exact laidMet_laidAll _ (by kernel_rfl) (by kernel_rfl)
/-- All that is read takes no more than the reach. -/
def SizedD {H : Type} (t : TypeId) (d : DataW H) : Prop := ∀ n ∈ d.weights Tryd.prog t, n ≤ reachBytes
theorem SizedD.param {H : Type} {ts : List TypeId} {ds : List (DataW H)} (h : (DataW.weightsEach Tryd.prog ts ds).all (· ≤ reachBytes) = true) {j : Nat} {t : TypeId} {d : DataW H} (ht : ts[j]? = some t) (hd : ds[j]? = some d) : SizedD t d :=
  fun n hn => of_decide_eq_true (List.all_eq_true.1 h n (DataW.weights_mem_each ht hd n hn))
theorem SizedD.string {H : Type} {t : TypeId} {s : ByteArray} {d : DataW H} (h : SizedD t d) (e : d = .lit (.string s.data.toList)) : s.size ≤ 140737488351232 := by
  subst e
  have := h s.data.toList.length (by simp [DataW.weights])
  unfold reachBytes at this
  have e : s.data.toList.length = s.size := rfl
  omega
end Go.Proofs.YtackfnojafinpaaDoor
