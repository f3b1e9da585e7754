/- The document's New. -/
import Derived.Test.YtiooacaplajidaaOb
namespace Go.Proofs.Ytiooacaplajidaa
open Go.RowKit
set_option maxRecDepth 100000
set_option linter.unusedVariables false
set_option linter.unusedSimpArgs false

def dnew (l g : Int) : Dm := ⟨lastP l, lastP l, begunP g, none, 0, [], none, 0, []⟩
set_option maxHeartbeats 4000000 in
theorem new_ref (Q : Nat → Prop) (w : World) (l g : Int) : Calls Try.prog 10 #[.int .i64 l, .int .i64 g] w fun e w' => e = .returned (dnew l g).agg ∧ DM Q w' (dnew l g) ∧ Fr w w' (fun _ => False) := by
  have b0 := zeroBox w
  have F0 := Fr.alloc w (.cells #[.int .i64 0, .int .i64 0, .int .i64 0, .slice none 0 0, .slice none 0 0] 29) (fun _ => False)
  obtain ⟨w1, hw1⟩ : ∃ w1, w1 = w.alloc (.cells #[.int .i64 0, .int .i64 0, .int .i64 0, .slice none 0 0, .slice none 0 0] 29) := ⟨_, rfl⟩
  rw [← hw1] at b0 F0
  have HW1 := hide hw1
  have HRES : Hid (∀ x y : Int, x = lastP l → y = begunP g → Hid (BoxM (((((w1.setCell ⟨w.heap.size, 0, none⟩ (.int .i64 x)).setCell ⟨w.heap.size, 1, none⟩ (.int .i64 x)).setCell ⟨w.heap.size, 2, none⟩ (.int .i64 y)).setCell ⟨w.heap.size, 3, none⟩ (.slice none 0 0)).setCell ⟨w.heap.size, 4, none⟩ (.slice none 0 0)) w.heap.size (dnew l g) ∧ Fr w (((((w1.setCell ⟨w.heap.size, 0, none⟩ (.int .i64 x)).setCell ⟨w.heap.size, 1, none⟩ (.int .i64 x)).setCell ⟨w.heap.size, 2, none⟩ (.int .i64 y)).setCell ⟨w.heap.size, 3, none⟩ (.slice none 0 0)).setCell ⟨w.heap.size, 4, none⟩ (.slice none 0 0)) (fun _ => False))) := hide (by
    intro x y hx hy
    subst hx hy
    exact hide ⟨b0.put (dnew l g), (F0.trans (Fr.set5 _ w.heap.size 0 1 2 3 4 _ _ _ _ _)).mono (fun k hk h => by rcases h with h | h; exact h; (have h : k = w.heap.size := h; omega))⟩)
  have HDM : Hid (∀ w', DM Q w' (dnew l g)) := hide (fun w' => ⟨⟨World.ownsRow_nil w' 0 49 3, fun k hk => (by cases hk), fun x hx => (by cases hx)⟩, ⟨World.ownsRow_nil w' 0 89 3, fun k hk => (by cases hk), fun x hx => (by cases hx)⟩⟩)
  obtain ⟨v0, v1, v2, v3, v4⟩ := b0.cells
  have z0 := b0.frozen 0
  have z1 := b0.frozen 1
  have z2 := b0.frozen 2
  have z3 := b0.frozen 3
  have z4 := b0.frozen 4
  clear b0 F0 hw1
  rcases Int.lt_or_le l 0 with l1 | l1
  · have l1b : decide (l < 0) = true := by simp [l1]
    have hx : (0 : Int) = lastP l := by unfold lastP; omega
    rcases Int.lt_or_le g 0 with g1 | g1
    · have g1b : decide (g < 0) = true := by simp [g1]
      have hy : (0 : Int) = begunP g := by unfold begunP; omega
      have HR := HRES.out _ _ hx hy
      clear HRES hx hy
      go_enter Try.func10, Try.ntmps10
      go_wp2_with (rw [← HW1.out]; clear HW1)
      exact bodyPost_ret (results_m1 Try.results10 _ _ w.heap.size HR.out.1 rfl) rfl ⟨rfl, HDM.out _, HR.out.2⟩
    · have g1b : decide (g < 0) = false := by simp; omega
      rcases Int.lt_or_le 4611686018427387904 g with g2 | g2
      · have g2b : decide (g > 4611686018427387904) = true := by simp; omega
        have hy : (4611686018427387904 : Int) = begunP g := by unfold begunP; omega
        have HR := HRES.out _ _ hx hy
        clear HRES hx hy
        go_enter Try.func10, Try.ntmps10
        go_wp2_with (rw [← HW1.out]; clear HW1)
        exact bodyPost_ret (results_m1 Try.results10 _ _ w.heap.size HR.out.1 rfl) rfl ⟨rfl, HDM.out _, HR.out.2⟩
      · have g2b : decide (g > 4611686018427387904) = false := by simp; omega
        have hy : g = begunP g := by unfold begunP; omega
        have HR := HRES.out _ _ hx hy
        clear HRES hx hy
        go_enter Try.func10, Try.ntmps10
        go_wp2_with (rw [← HW1.out]; clear HW1)
        exact bodyPost_ret (results_m1 Try.results10 _ _ w.heap.size HR.out.1 rfl) rfl ⟨rfl, HDM.out _, HR.out.2⟩
  · have l1b : decide (l < 0) = false := by simp; omega
    rcases Int.lt_or_le 1099511627776 l with l2 | l2
    · have l2b : decide (l > 1099511627776) = true := by simp; omega
      have hx : (1099511627776 : Int) = lastP l := by unfold lastP; omega
      rcases Int.lt_or_le g 0 with g1 | g1
      · have g1b : decide (g < 0) = true := by simp [g1]
        have hy : (0 : Int) = begunP g := by unfold begunP; omega
        have HR := HRES.out _ _ hx hy
        clear HRES hx hy
        go_enter Try.func10, Try.ntmps10
        go_wp2_with (rw [← HW1.out]; clear HW1)
        exact bodyPost_ret (results_m1 Try.results10 _ _ w.heap.size HR.out.1 rfl) rfl ⟨rfl, HDM.out _, HR.out.2⟩
      · have g1b : decide (g < 0) = false := by simp; omega
        rcases Int.lt_or_le 4611686018427387904 g with g2 | g2
        · have g2b : decide (g > 4611686018427387904) = true := by simp; omega
          have hy : (4611686018427387904 : Int) = begunP g := by unfold begunP; omega
          have HR := HRES.out _ _ hx hy
          clear HRES hx hy
          go_enter Try.func10, Try.ntmps10
          go_wp2_with (rw [← HW1.out]; clear HW1)
          exact bodyPost_ret (results_m1 Try.results10 _ _ w.heap.size HR.out.1 rfl) rfl ⟨rfl, HDM.out _, HR.out.2⟩
        · have g2b : decide (g > 4611686018427387904) = false := by simp; omega
          have hy : g = begunP g := by unfold begunP; omega
          have HR := HRES.out _ _ hx hy
          clear HRES hx hy
          go_enter Try.func10, Try.ntmps10
          go_wp2_with (rw [← HW1.out]; clear HW1)
          exact bodyPost_ret (results_m1 Try.results10 _ _ w.heap.size HR.out.1 rfl) rfl ⟨rfl, HDM.out _, HR.out.2⟩
    · have l2b : decide (l > 1099511627776) = false := by simp; omega
      have hx : l = lastP l := by unfold lastP; omega
      rcases Int.lt_or_le g 0 with g1 | g1
      · have g1b : decide (g < 0) = true := by simp [g1]
        have hy : (0 : Int) = begunP g := by unfold begunP; omega
        have HR := HRES.out _ _ hx hy
        clear HRES hx hy
        go_enter Try.func10, Try.ntmps10
        go_wp2_with (rw [← HW1.out]; clear HW1)
        exact bodyPost_ret (results_m1 Try.results10 _ _ w.heap.size HR.out.1 rfl) rfl ⟨rfl, HDM.out _, HR.out.2⟩
      · have g1b : decide (g < 0) = false := by simp; omega
        rcases Int.lt_or_le 4611686018427387904 g with g2 | g2
        · have g2b : decide (g > 4611686018427387904) = true := by simp; omega
          have hy : (4611686018427387904 : Int) = begunP g := by unfold begunP; omega
          have HR := HRES.out _ _ hx hy
          clear HRES hx hy
          go_enter Try.func10, Try.ntmps10
          go_wp2_with (rw [← HW1.out]; clear HW1)
          exact bodyPost_ret (results_m1 Try.results10 _ _ w.heap.size HR.out.1 rfl) rfl ⟨rfl, HDM.out _, HR.out.2⟩
        · have g2b : decide (g > 4611686018427387904) = false := by simp; omega
          have hy : g = begunP g := by unfold begunP; omega
          have HR := HRES.out _ _ hx hy
          clear HRES hx hy
          go_enter Try.func10, Try.ntmps10
          go_wp2_with (rw [← HW1.out]; clear HW1)
          exact bodyPost_ret (results_m1 Try.results10 _ _ w.heap.size HR.out.1 rfl) rfl ⟨rfl, HDM.out _, HR.out.2⟩
end Go.Proofs.Ytiooacaplajidaa
