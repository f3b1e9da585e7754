/- Union's closure as a comparison, and the library's sort at a row of periods. -/
import Derived.Test.YtaikhmedehbfbaaE
import Derived.Test.YtaikhmedehbfbaaLay
import Derived.Shelf.SlSortCmp.WholeK
import Derived.Shelf.SlicesG.Cmp
namespace Go.Proofs.Ytaikhmedehbfbaa
open Go.Shelf Go.RowKit Go.Lib Go.Sort
set_option linter.unusedVariables false

instance : Inhabited Per := ⟨⟨0, 0⟩⟩
def encK (x : Per) : List Value := [.int .i64 x.lo, .int .i64 x.hi]

set_option maxHeartbeats 1000000 in
theorem closure25 (x y : Per) (W : World) : Calls Try.prog 25 #[.agg #[.int .i64 x.lo, .int .i64 x.hi], .agg #[.int .i64 y.lo, .int .i64 y.hi]] W fun e w' => e = .returned (.int .i64 (Lib.compareInt x.lo y.lo)) ∧ ∃ q os', w' = grow (W.drewN q) os' := by
  have hcon := fun W' => AnyG.cmp_Compare_int Try.cmp64 x.lo y.lo W'
  change ∀ W', Calls Try.prog 26 _ _ _ at hcon
  generalize Lib.compareInt x.lo y.lo = r at hcon ⊢
  go_enter Try.func25, Try.ntmps25
  go_wp2_with (go_at_call 26; refine (hcon _).mono ?_; rintro e w' ⟨rfl, rfl⟩)
  go_ret
  exact ⟨rfl, 0, _, by rw [alloc_eq_grow, alloc_eq_grow, grow_grow]; rfl⟩

theorem cmpLays25 (blk off size : Nat) (w : World) : CmpLays Try.prog 25 #[] encK 2 (fun x y => Lib.compareInt x.lo y.lo) blk off size w :=
  fun _ _ _ _ x y => closure25 x y _

theorem ltLo (x y : Per) : ltOf (fun x y : Per => Lib.compareInt x.lo y.lo) x y = decide (x.lo < y.lo) := by
  unfold ltOf Lib.compareInt
  by_cases h1 : x.lo < y.lo
  · simp [h1]
  · by_cases h2 : y.lo < x.lo <;> simp [h1, h2]

theorem swoLo : SWO (ltOf fun x y : Per => Lib.compareInt x.lo y.lo) where
  irrefl x := by rw [ltLo]; simp
  trans x y z h1 h2 := by rw [ltLo] at *; simp at *; omega
  ntrans x y z h1 h2 := by rw [ltLo] at *; simp at *; omega

theorem sortFunc_any (blk off cap : Nat) (d : Array Per) (w : World) (hH : HoldsK encK 2 w blk off d) (hblk : blk < w.heap.size) (hsz : d.size < 4611686018427387904) :
    Calls Try.prog 24 #[.slice (some ⟨blk, off, none⟩) d.size cap, .func (.func 25) #[] #[]] w fun e w' => e = .returned (.tuple #[]) ∧ ∃ d' n os, PermIn 0 d.size d d' ∧ SortedIn (ltOf fun x y : Per => Lib.compareInt x.lo y.lo) 0 d.size d' ∧ w' = sortWorldK encK 2 w blk off n d' os := by
  have eg : ∀ args w, (callFunc 25 args).run Try.prog w = .ok (.enter 25 args) w := enters_of Try.func25 (by kernel_rfl) rfl
  have hcon := AnyQ.slices_SortFunc Try.sortPer 2 Try.isAgg23 Try.sizeOf23 encK (fun _ => rfl) (fun x v hv => by simp [encK] at hv; rcases hv with rfl | rfl <;> rfl) (fun x y => Lib.compareInt x.lo y.lo) swoLo 25 #[] blk off cap d w eg (cmpLays25 blk off d.size w) hH hblk hsz
  exact hcon
end Go.Proofs.Ytaikhmedehbfbaa
