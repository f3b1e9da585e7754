/- The document's New, Tick, shares, Begin. -/
import Derived.Test.YtiooacaplajidaaOa
namespace Go.Proofs.Ytiooacaplajidaa
open Go.RowKit
set_option maxRecDepth 100000
set_option linter.unusedVariables false
set_option linter.unusedSimpArgs false

theorem zeroBox (w : World) : BoxM (w.alloc (.cells #[.int .i64 0, .int .i64 0, .int .i64 0, .slice none 0 0, .slice none 0 0] 29)) w.heap.size zeroM := heap_alloc_new w _
/-- Two boxes, one for what comes in, one for what goes out. -/
structure Two (w : World) (m : Dm) (w2 : World) : Prop where
  b : BoxM w2 w.heap.size m
  z : BoxM w2 (w.heap.size + 1) zeroM
  f : Fr w w2 (fun _ => False)
theorem two_boxes (w : World) (m : Dm) : Two w m ((w.alloc (.cells #[.int .i64 m.now, .int .i64 m.last, .int .i64 m.begun, .slice m.aa m.A.length m.ac, .slice m.ha m.H.length m.hc] 29)).alloc (.cells #[.int .i64 0, .int .i64 0, .int .i64 0, .slice none 0 0, .slice none 0 0] 29)) := by
  have b1 : BoxM (w.alloc (.cells #[.int .i64 m.now, .int .i64 m.last, .int .i64 m.begun, .slice m.aa m.A.length m.ac, .slice m.ha m.H.length m.hc] 29)) w.heap.size m := heap_alloc_new w _
  have b2 := zeroBox (w.alloc (.cells #[.int .i64 m.now, .int .i64 m.last, .int .i64 m.begun, .slice m.aa m.A.length m.ac, .slice m.ha m.H.length m.hc] 29))
  rw [show (w.alloc (.cells #[.int .i64 m.now, .int .i64 m.last, .int .i64 m.begun, .slice m.aa m.A.length m.ac, .slice m.ha m.H.length m.hc] 29)).heap.size = w.heap.size + 1 by simp] at b2
  have F2 := Fr.alloc (w.alloc (.cells #[.int .i64 m.now, .int .i64 m.last, .int .i64 m.begun, .slice m.aa m.A.length m.ac, .slice m.ha m.H.length m.hc] 29)) (.cells #[.int .i64 0, .int .i64 0, .int .i64 0, .slice none 0 0, .slice none 0 0] 29) (fun _ => False)
  exact ⟨b1.fr F2 (fun h => h), b2, (Fr.alloc w _ (fun _ => False)).two F2⟩
/-- What goes out is stored. -/
theorem out_box {w w2 : World} {z m : Dm} {g : Nat} (hb : BoxM w2 g z) (hg : w.heap.size ≤ g) (hf : Fr w w2 (fun _ => False)) : Hid (BoxM (((((w2.setCell ⟨g, 0, none⟩ (.int .i64 m.now)).setCell ⟨g, 1, none⟩ (.int .i64 m.last)).setCell ⟨g, 2, none⟩ (.int .i64 m.begun)).setCell ⟨g, 3, none⟩ (.slice m.aa m.A.length m.ac)).setCell ⟨g, 4, none⟩ (.slice m.ha m.H.length m.hc)) g m ∧ Fr w (((((w2.setCell ⟨g, 0, none⟩ (.int .i64 m.now)).setCell ⟨g, 1, none⟩ (.int .i64 m.last)).setCell ⟨g, 2, none⟩ (.int .i64 m.begun)).setCell ⟨g, 3, none⟩ (.slice m.aa m.A.length m.ac)).setCell ⟨g, 4, none⟩ (.slice m.ha m.H.length m.hc)) (fun _ => False)) :=
  hide ⟨hb.put m, (hf.trans (Fr.set5 w2 g 0 1 2 3 4 _ _ _ _ _)).mono (fun k hk h => by rcases h with h | h; exact h; (have h : k = g := h; omega))⟩
theorem BoxM.now {w : World} {g : Nat} {m : Dm} (h : BoxM w g m) (x : Int) : BoxM (w.setCell ⟨g, 0, none⟩ (.int .i64 x)) g { m with now := x } := by
  unfold BoxM at h ⊢
  rw [heap_setCell_here w g 0 (.int .i64 x) _ 29 (0, 0) h]
  rfl
theorem Fr.box {w w2 : World} {g j : Nat} {v : Value} (h : Fr w w2 (fun _ => False)) (hg : w.heap.size ≤ g) : Fr w (w2.setCell ⟨g, j, none⟩ v) (fun _ => False) :=
  (h.trans (Fr.setCell w2 ⟨g, j, none⟩ v)).mono (fun k hk h => by rcases h with h | h; exact h; (have h : k = g := h; omega))
set_option maxHeartbeats 4000000 in
theorem tick_ref {Q : Nat → Prop} {w : World} {m : Dm} (h : DM Q w m) (n : Int) (h0 : 0 ≤ m.now) (h1 : m.now ≤ 1099511627776) (hn : In64 n) : Calls Try.prog 28 #[m.agg, .int .i64 n] w fun e w' => e = .returned ({ m with now := tickP m.now n } : Dm).agg ∧ DM Q w' { m with now := tickP m.now n } ∧ Fr w w' (fun _ => False) := by
  have HD := hide h
  obtain ⟨hb, hz, hf⟩ := two_boxes w m
  obtain ⟨w2, hw2⟩ : ∃ w2, w2 = ((w.alloc (.cells #[.int .i64 m.now, .int .i64 m.last, .int .i64 m.begun, .slice m.aa m.A.length m.ac, .slice m.ha m.H.length m.hc] 29)).alloc (.cells #[.int .i64 0, .int .i64 0, .int .i64 0, .slice none 0 0, .slice none 0 0] 29)) := ⟨_, rfl⟩
  rw [← hw2] at hb hz hf
  have HW := hide hw2
  obtain ⟨c0, c1, c2, c3, c4⟩ := hb.cells
  have y0 := hb.frozen 0
  obtain ⟨v0, v1, v2, v3, v4⟩ := hz.cells
  have z0 := hz.frozen 0
  have z1 := hz.frozen 1
  have z2 := hz.frozen 2
  have z3 := hz.frozen 3
  have z4 := hz.frozen 4
  have hs : IntKind.i64.wrap (1099511627776 - m.now) = 1099511627776 - m.now := wrap_i64_fit _ (by omega) (by omega)
  have HE : Hid (∀ w' : World, Fr w w' (fun _ => False) → ∀ x, DM Q w' { m with now := x }) := hide (fun w' hf x => HD.out.frF hf)
  clear hw2 h HD
  unfold Dm.agg
  by_cases p1 : 0 < n
  · have p1b : decide (n > 0) = true := by simp; omega
    by_cases p2 : n > 1099511627776 - m.now
    · have p2b : decide (n > 1099511627776 - m.now) = true := by simp; omega
      have ht : tickP m.now n = 1099511627776 := by unfold tickP; rw [if_pos p1]; omega
      rw [ht]
      have hb2 := hb.now 1099511627776
      have hF := Fr.setCell w2 ⟨w.heap.size, 0, none⟩ (.int .i64 1099511627776)
      have hz2 := hz.fr hF (fun h => by have h : w.heap.size + 1 = w.heap.size := h; omega)
      have hf2 : Fr w (w2.setCell ⟨w.heap.size, 0, none⟩ (.int .i64 1099511627776)) (fun _ => False) := hf.box (Nat.le_refl _)
      have HO := out_box (m := { m with now := 1099511627776 }) hz2 (by omega) hf2
      obtain ⟨w3, hw3⟩ : ∃ w3, w3 = w2.setCell ⟨w.heap.size, 0, none⟩ (.int .i64 1099511627776) := ⟨_, rfl⟩
      rw [← hw3] at hb2 hz2 HO
      obtain ⟨d0, d1, d2, d3, d4⟩ := hb2.cells
      dsimp only at d0 d1 d2 d3 d4
      obtain ⟨k0, k1, k2, k3, k4⟩ := hz2.cells
      have x0 := hz2.frozen 0
      have x1 := hz2.frozen 1
      have x2 := hz2.frozen 2
      have x3 := hz2.frozen 3
      have x4 := hz2.frozen 4
      have HW3 := hide hw3
      clear hw3 hb2 hz2 hF hb hz hf hf2 ht
      go_enter Try.func28, Try.ntmps28
      go_wp2_with (first | (rw [← HW.out]; clear HW) | (rw [← HW3.out]; clear HW3))
      exact bodyPost_ret (results_m1 Try.results28 _ _ (w.heap.size + 1) HO.out.1 rfl) rfl ⟨rfl, HE.out _ HO.out.2 _, HO.out.2⟩
    · have p2b : decide (n > 1099511627776 - m.now) = false := by simp; omega
      have ht : tickP m.now n = m.now + n := by unfold tickP; rw [if_pos p1]; omega
      have hs2 : IntKind.i64.wrap (m.now + n) = m.now + n := wrap_i64_fit _ (by omega) (by omega)
      rw [ht]
      have hb2 := hb.now (m.now + n)
      have hF := Fr.setCell w2 ⟨w.heap.size, 0, none⟩ (.int .i64 (m.now + n))
      have hz2 := hz.fr hF (fun h => by have h : w.heap.size + 1 = w.heap.size := h; omega)
      have hf2 : Fr w (w2.setCell ⟨w.heap.size, 0, none⟩ (.int .i64 (m.now + n))) (fun _ => False) := hf.box (Nat.le_refl _)
      have HO := out_box (m := { m with now := m.now + n }) hz2 (by omega) hf2
      obtain ⟨w3, hw3⟩ : ∃ w3, w3 = w2.setCell ⟨w.heap.size, 0, none⟩ (.int .i64 (m.now + n)) := ⟨_, rfl⟩
      rw [← hw3] at hb2 hz2 HO
      obtain ⟨d0, d1, d2, d3, d4⟩ := hb2.cells
      dsimp only at d0 d1 d2 d3 d4
      obtain ⟨k0, k1, k2, k3, k4⟩ := hz2.cells
      have x0 := hz2.frozen 0
      have x1 := hz2.frozen 1
      have x2 := hz2.frozen 2
      have x3 := hz2.frozen 3
      have x4 := hz2.frozen 4
      have HW3 := hide hw3
      clear hw3 hb2 hz2 hF hb hz hf hf2 ht
      go_enter Try.func28, Try.ntmps28
      go_wp2_with (first | (rw [← HW.out]; clear HW) | (rw [← HW3.out]; clear HW3))
      exact bodyPost_ret (results_m1 Try.results28 _ _ (w.heap.size + 1) HO.out.1 rfl) rfl ⟨rfl, HE.out _ HO.out.2 _, HO.out.2⟩
  · have p1b : decide (n > 0) = false := by simp; omega
    have ht : tickP m.now n = m.now := by unfold tickP; rw [if_neg p1]
    rw [ht]
    have HO := out_box (m := m) hz (by omega) hf
    clear hb hz hf ht
    go_enter Try.func28, Try.ntmps28
    go_wp2_with (first | (rw [← HW.out]; clear HW))
    exact bodyPost_ret (results_m1 Try.results28 _ _ (w.heap.size + 1) HO.out.1 rfl) rfl ⟨rfl, HE.out _ HO.out.2 _, HO.out.2⟩
end Go.Proofs.Ytiooacaplajidaa
