/- Union's closure as a comparison, and the library's sort at a row of periods. -/
import Derived.Test.YtbdpdobaacbkkaaDoorE
import Derived.Test.YtbdpdobaacbkkaaDoorLay
import Derived.Shelf.SlSortCmp.WholeK
import Derived.Shelf.SlicesG.Cmp
namespace Go.Proofs.YtbdpdobaacbkkaaDoor
open Go.Shelf Go.RowKit Go.Lib Go.Sort
set_option linter.unusedVariables false

instance : Inhabited Per := ⟨⟨0, 0⟩⟩
def encK (x : Per) : List Value := [.int .i64 x.lo, .int .i64 x.hi]

set_option maxHeartbeats 1000000 in
theorem closure25 (x y : Per) (W : World) : Calls Tryd.prog 22 #[.agg #[.int .i64 x.lo, .int .i64 x.hi], .agg #[.int .i64 y.lo, .int .i64 y.hi]] W fun e w' => e = .returned (.int .i64 (Lib.compareInt x.lo y.lo)) ∧ ∃ q os', w' = grow (W.drewN q) os' := by
  have hcon := fun W' => AnyG.cmp_Compare_int Tryd.cmp64 x.lo y.lo W'
  change ∀ W', Calls Tryd.prog 15 _ _ _ at hcon
  generalize Lib.compareInt x.lo y.lo = r at hcon ⊢
  go_enter Tryd.func22, Tryd.ntmps22
  go_wp2_with (go_at_call 15; refine (hcon _).mono ?_; rintro e w' ⟨rfl, rfl⟩)
  go_ret
  exact ⟨rfl, 0, _, by rw [alloc_eq_grow, alloc_eq_grow, grow_grow]; rfl⟩

theorem cmpLays25 (blk off size : Nat) (w : World) : CmpLays Tryd.prog 22 #[] encK 2 (fun x y => Lib.compareInt x.lo y.lo) blk off size w :=
  fun _ _ _ _ x y => closure25 x y _

theorem ltLo (x y : Per) : ltOf (fun x y : Per => Lib.compareInt x.lo y.lo) x y = decide (x.lo < y.lo) := by
  unfold ltOf Lib.compareInt
  by_cases h1 : x.lo < y.lo
  · simp [h1]
  · by_cases h2 : y.lo < x.lo <;> simp [h1, h2]

theorem swoLo : SWO (ltOf fun x y : Per => Lib.compareInt x.lo y.lo) where
  irrefl x := by rw [ltLo]; simp
  trans x y z h1 h2 := by rw [ltLo] at *; simp at *; omega
  ntrans x y z h1 h2 := by rw [ltLo] at *; simp at *; omega

theorem sortFunc_any (blk off cap : Nat) (d : Array Per) (w : World) (hH : HoldsK encK 2 w blk off d) (hblk : blk < w.heap.size) (hsz : d.size < 4611686018427387904) :
    Calls Tryd.prog 21 #[.slice (some ⟨blk, off, none⟩) d.size cap, .func (.func 22) #[] #[]] w fun e w' => e = .returned (.tuple #[]) ∧ ∃ d' n os, PermIn 0 d.size d d' ∧ SortedIn (ltOf fun x y : Per => Lib.compareInt x.lo y.lo) 0 d.size d' ∧ w' = sortWorldK encK 2 w blk off n d' os := by
  have eg : ∀ args w, (callFunc 22 args).run Tryd.prog w = .ok (.enter 22 args) w := enters_of Tryd.func22 (by kernel_rfl) rfl
  have hcon := AnyQ.slices_SortFunc Tryd.sortPer 2 Tryd.isAgg23 Tryd.sizeOf23 encK (fun _ => rfl) (fun x v hv => by simp [encK] at hv; rcases hv with rfl | rfl <;> rfl) (fun x y => Lib.compareInt x.lo y.lo) swoLo 22 #[] blk off cap d w eg (cmpLays25 blk off d.size w) hH hblk hsz
  exact hcon
end Go.Proofs.YtbdpdobaacbkkaaDoor
