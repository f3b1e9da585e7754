/- A row of periods of one's own, with a block or with none, sorted by the library. -/
import Derived.Test.YtbdpdobaacbkkaaDoorH
import Derived.Shelf.SlSortCmp.NoneTotal
namespace Go.Proofs.YtbdpdobaacbkkaaDoor
open Go.Shelf Go.RowKit Go.Lib Go.Sort
set_option linter.unusedVariables false

theorem sortP_any (v : Value) (L : List Per) (w : World) (hv : OwnP w v L) (hL : L.length ≤ 8796093022000) :
    Calls Tryd.prog 21 #[v, .func (.func 22) #[] #[]] w fun e w' => e = .returned (.tuple #[]) ∧ ∃ T : List Per, T.Perm L ∧ T.Pairwise (fun x y => x.lo ≤ y.lo) ∧ OwnP w' v T ∧ Fr w w' (fun k => v.ownBlock = some k) := by
  rcases hv.2 with ⟨h1, h2⟩ | ⟨g, cap, cur, hv', _⟩
  · have hn : L = [] := List.eq_nil_of_length_eq_zero h2
    subst hn h1
    have hc := AnyF.slices_SortFunc_none Tryd.sortPer none 0 (.func (.func 22) #[] #[]) w
    change Calls Tryd.prog 21 _ _ _ at hc
    refine hc.mono ?_
    rintro e w' ⟨rfl, rfl⟩
    exact ⟨rfl, [], List.Perm.refl _, List.Pairwise.nil, OwnP.nil _, Fr.refl _ _⟩
  · refine (sortOwn_any v L w hv g cap hv' hL).mono ?_
    rintro e w' ⟨rfl, T, h1, h2, h3, h4⟩
    exact ⟨rfl, T, h1, h2, h3, h4.mono (fun k _ e => by rw [hv', e]; rfl)⟩
end Go.Proofs.YtbdpdobaacbkkaaDoor
