/- What else is asked: Without of none, Snapshot, Active. -/
import Derived.Test.YtiooacaplajidaaOj
namespace Go.Proofs.Ytiooacaplajidaa
open Go.RowKit Go.Maps
set_option maxRecDepth 100000
set_option linter.unusedVariables false
set_option linter.unusedSimpArgs false

set_option maxHeartbeats 8000000 in
theorem without_ref_no {Q : Nat → Prop} {w : World} {m : Dm} (h : DM Q w m) (hnb : m.A.length ≤ 1048576) (t : Int) (hno : ∀ x ∈ m.A, x.id ≠ t) : Calls Try.prog 27 #[m.agg, .int .i64 t] w fun e w' => e = .returned (.tuple #[m.agg, .int .i64 70]) ∧ DM Q w' m ∧ Fr w w' (fun _ => False) := by
  obtain ⟨hb, hz, hf⟩ := two_boxes w m
  obtain ⟨w2, hw2⟩ : ∃ w2, w2 = ((w.alloc (.cells #[.int .i64 m.now, .int .i64 m.last, .int .i64 m.begun, .slice m.aa m.A.length m.ac, .slice m.ha m.H.length m.hc] 29)).alloc (.cells #[.int .i64 0, .int .i64 0, .int .i64 0, .slice none 0 0, .slice none 0 0] 29)) := ⟨_, rfl⟩
  rw [← hw2] at hb hz hf
  have HW2 := hide hw2
  clear hw2
  have HFI := hide (find_ref (h.frF hf) t hnb)
  unfold Dm.agg at HFI
  obtain ⟨⟨a0, a1, a2, a3, a4⟩, _⟩ := hb.all
  have HB := hide hb
  have HZ := hide hz
  have HF := hide hf
  have HD := hide h
  have HNO := hide hno
  clear hb hz hf h hno
  unfold Dm.agg
  go_enter Try.func27, Try.ntmps27
  go_wp2_with (rw [← HW2.out]; clear HW2)
  refine HFI.out.mono ?_
  rintro e V ⟨fV, ⟨i, x, hx, hxi, _⟩ | ⟨_, rfl⟩⟩
  · exact absurd hxi (HNO.out x (List.mem_of_getElem? hx))
  obtain ⟨⟨b0, b1, b2, b3, b4⟩, _⟩ := (HB.out.fr fV (fun h => h)).all
  have hzV := HZ.out.fr fV (fun h => h)
  obtain ⟨⟨g0, g1, g2, g3, g4⟩, i0, i1, i2, i3, i4⟩ := hzV.all
  have HO := out_box (m := m) hzV (by omega) (HF.out.two fV)
  clear hzV fV a0 a1 a2 a3 a4 HFI
  go_wp2
  exact bodyPost_ret (results_m2 Try.results27 _ _ (w.heap.size + 1) HO.out.1 rfl) rfl ⟨rfl, HD.out.frF HO.out.2, HO.out.2⟩
set_option maxHeartbeats 4000000 in
theorem tick_ref2 {Q : Nat → Prop} {w : World} {m : Dm} (h : DM Q w m) (n : Int) (h0 : 0 ≤ m.now) (h1 : m.now ≤ 1099511627776) : Calls Try.prog 28 #[m.agg, .int .i64 n] w fun e w' => e = .returned ({ m with now := tickP m.now n } : Dm).agg ∧ DM Q w' { m with now := tickP m.now n } ∧ Fr w w' (fun _ => False) := by
  have HD := hide h
  obtain ⟨hb, hz, hf⟩ := two_boxes w m
  obtain ⟨w2, hw2⟩ : ∃ w2, w2 = ((w.alloc (.cells #[.int .i64 m.now, .int .i64 m.last, .int .i64 m.begun, .slice m.aa m.A.length m.ac, .slice m.ha m.H.length m.hc] 29)).alloc (.cells #[.int .i64 0, .int .i64 0, .int .i64 0, .slice none 0 0, .slice none 0 0] 29)) := ⟨_, rfl⟩
  rw [← hw2] at hb hz hf
  have HW := hide hw2
  obtain ⟨c0, c1, c2, c3, c4⟩ := hb.cells
  have y0 := hb.frozen 0
  obtain ⟨v0, v1, v2, v3, v4⟩ := hz.cells
  have z0 := hz.frozen 0
  have z1 := hz.frozen 1
  have z2 := hz.frozen 2
  have z3 := hz.frozen 3
  have z4 := hz.frozen 4
  have hs : IntKind.i64.wrap (1099511627776 - m.now) = 1099511627776 - m.now := wrap_i64_fit _ (by omega) (by omega)
  have HE : Hid (∀ w' : World, Fr w w' (fun _ => False) → ∀ x, DM Q w' { m with now := x }) := hide (fun w' hf x => HD.out.frF hf)
  clear hw2 h HD
  unfold Dm.agg
  by_cases p1 : 0 < n
  · have p1b : decide (n > 0) = true := by simp; omega
    by_cases p2 : n > 1099511627776 - m.now
    · have p2b : decide (n > 1099511627776 - m.now) = true := by simp; omega
      have ht : tickP m.now n = 1099511627776 := by unfold tickP; rw [if_pos p1]; omega
      rw [ht]
      have hb2 := hb.now 1099511627776
      have hF := Fr.setCell w2 ⟨w.heap.size, 0, none⟩ (.int .i64 1099511627776)
      have hz2 := hz.fr hF (fun h => by have h : w.heap.size + 1 = w.heap.size := h; omega)
      have hf2 : Fr w (w2.setCell ⟨w.heap.size, 0, none⟩ (.int .i64 1099511627776)) (fun _ => False) := hf.box (Nat.le_refl _)
      have HO := out_box (m := { m with now := 1099511627776 }) hz2 (by omega) hf2
      obtain ⟨w3, hw3⟩ : ∃ w3, w3 = w2.setCell ⟨w.heap.size, 0, none⟩ (.int .i64 1099511627776) := ⟨_, rfl⟩
      rw [← hw3] at hb2 hz2 HO
      obtain ⟨d0, d1, d2, d3, d4⟩ := hb2.cells
      dsimp only at d0 d1 d2 d3 d4
      obtain ⟨k0, k1, k2, k3, k4⟩ := hz2.cells
      have x0 := hz2.frozen 0
      have x1 := hz2.frozen 1
      have x2 := hz2.frozen 2
      have x3 := hz2.frozen 3
      have x4 := hz2.frozen 4
      have HW3 := hide hw3
      clear hw3 hb2 hz2 hF hb hz hf hf2 ht
      go_enter Try.func28, Try.ntmps28
      go_wp2_with (first | (rw [← HW.out]; clear HW) | (rw [← HW3.out]; clear HW3))
      exact bodyPost_ret (results_m1 Try.results28 _ _ (w.heap.size + 1) HO.out.1 rfl) rfl ⟨rfl, HE.out _ HO.out.2 _, HO.out.2⟩
    · have p2b : decide (n > 1099511627776 - m.now) = false := by simp; omega
      have ht : tickP m.now n = m.now + n := by unfold tickP; rw [if_pos p1]; omega
      have hs2 : IntKind.i64.wrap (m.now + n) = m.now + n := wrap_i64_fit _ (by omega) (by omega)
      rw [ht]
      have hb2 := hb.now (m.now + n)
      have hF := Fr.setCell w2 ⟨w.heap.size, 0, none⟩ (.int .i64 (m.now + n))
      have hz2 := hz.fr hF (fun h => by have h : w.heap.size + 1 = w.heap.size := h; omega)
      have hf2 : Fr w (w2.setCell ⟨w.heap.size, 0, none⟩ (.int .i64 (m.now + n))) (fun _ => False) := hf.box (Nat.le_refl _)
      have HO := out_box (m := { m with now := m.now + n }) hz2 (by omega) hf2
      obtain ⟨w3, hw3⟩ : ∃ w3, w3 = w2.setCell ⟨w.heap.size, 0, none⟩ (.int .i64 (m.now + n)) := ⟨_, rfl⟩
      rw [← hw3] at hb2 hz2 HO
      obtain ⟨d0, d1, d2, d3, d4⟩ := hb2.cells
      dsimp only at d0 d1 d2 d3 d4
      obtain ⟨k0, k1, k2, k3, k4⟩ := hz2.cells
      have x0 := hz2.frozen 0
      have x1 := hz2.frozen 1
      have x2 := hz2.frozen 2
      have x3 := hz2.frozen 3
      have x4 := hz2.frozen 4
      have HW3 := hide hw3
      clear hw3 hb2 hz2 hF hb hz hf hf2 ht
      go_enter Try.func28, Try.ntmps28
      go_wp2_with (first | (rw [← HW.out]; clear HW) | (rw [← HW3.out]; clear HW3))
      exact bodyPost_ret (results_m1 Try.results28 _ _ (w.heap.size + 1) HO.out.1 rfl) rfl ⟨rfl, HE.out _ HO.out.2 _, HO.out.2⟩
  · have p1b : decide (n > 0) = false := by simp; omega
    have ht : tickP m.now n = m.now := by unfold tickP; rw [if_neg p1]
    rw [ht]
    have HO := out_box (m := m) hz (by omega) hf
    clear hb hz hf ht
    go_enter Try.func28, Try.ntmps28
    go_wp2_with (first | (rw [← HW.out]; clear HW))
    exact bodyPost_ret (results_m1 Try.results28 _ _ (w.heap.size + 1) HO.out.1 rfl) rfl ⟨rfl, HE.out _ HO.out.2 _, HO.out.2⟩
section
variable {w0 W W' : World} {bs mb N D : Nat} {F : Nat → Option Obj} {E : Nat → Prop} {s : St} {m m' : Dm} {X : Nat → Prop}
theorem M3.dwithout (h : M3 w0 bs mb F E N D s m W) (hnb : m.A.length ≤ 1048576) (t : Int) : Calls Try.prog 27 #[m.agg, .int .i64 t] W fun e w' => ∃ m', M3 w0 bs mb F E N D s m' w' ∧ Fr W w' (fun _ => False) ∧ (((∀ x ∈ m.A, x.id ≠ t) ∧ m' = m ∧ e = .returned (.tuple #[m'.agg, .int .i64 70])) ∨ (∃ (i : Nat) (x : Rw) (a : Option Addr) (c : Nat), First m t i x ∧ m' = { m with aa := a, ac := c, A := erased m i } ∧ e = .returned (.tuple #[m'.agg, .int .i64 0]))) := by
  obtain ⟨X, h⟩ := h
  by_cases hp : ∃ x ∈ m.A, x.id = t
  · obtain ⟨x, hx, he⟩ := hp
    obtain ⟨i, z, hz⟩ := first_of hx he
    refine (without_ref h.2.2.1 h.hQ hnb t i z hz.1 hz.2.1 hz.2.2).mono ?_
    rintro e w' ⟨a, c, q1, q2, q3⟩
    exact ⟨_, h.doc q2 q3, q3, .inr ⟨i, z, a, c, hz, rfl, q1⟩⟩
  · have hno : ∀ x ∈ m.A, x.id ≠ t := fun x hx he => hp ⟨x, hx, he⟩
    refine (without_ref_no h.2.2.1 hnb t hno).mono ?_
    rintro e w' ⟨q1, q2, q3⟩
    exact ⟨m, h.doc q2 q3, q3, .inl ⟨hno, rfl, q1⟩⟩
theorem M3.snap (h : M3 w0 bs mb F E N D s m W) (t : Int) (ht : In64 t) : Calls Try.prog 20 #[.pointer (some ⟨mb, 0, none⟩), .int .i64 t] W fun e w' => ((s.act t = none ∧ e = .returned (.tuple #[.int .i64 0, .int .i64 70])) ∨ ∃ x, s.act t = some x ∧ e = .returned (.tuple #[.int .i64 x.snap, .int .i64 0])) ∧ w' = W := by
  obtain ⟨X, ⟨rl, hl, hi, _⟩, _⟩ := h
  refine (snapshot_any hl t ht).mono ?_
  rintro e w' ⟨q1, q2⟩
  refine ⟨?_, q2⟩
  cases ha : s.act t with
  | none => rw [ha] at q1; exact .inl ⟨rfl, q1⟩
  | some x => rw [ha] at q1; exact .inr ⟨x, rfl, q1⟩
theorem M3.dtick2 (h : M3 w0 bs mb F E N D s m W) (n : Int) (h0 : 0 ≤ m.now) (h1 : m.now ≤ 1099511627776) : Calls Try.prog 28 #[m.agg, .int .i64 n] W fun e w' => e = .returned ({ m with now := tickP m.now n } : Dm).agg ∧ M3 w0 bs mb F E N D s { m with now := tickP m.now n } w' ∧ Fr W w' (fun _ => False) := by
  obtain ⟨X, h⟩ := h
  refine (tick_ref2 h.2.2.1 n h0 h1).mono ?_
  rintro e w' ⟨q1, q2, q3⟩
  exact ⟨q1, h.doc q2 q3, q3⟩
def idsOf (m : Dm) : List Int := m.A.map Rw.id
theorem M3.active (h : M3 w0 bs mb F E N D s m W) (hp : PI s m) (hin : ∀ x ∈ m.A, In64 x.id) (hN : N ≤ 17592186044416) : Calls Try.prog 14 #[.pointer (some ⟨mb, 0, none⟩)] W fun e w' => ∃ a c, e = .returned (.slice a m.A.length c) ∧ w'.ownsRow 0 2 1 (.slice a m.A.length c) m.A.length ((idsOf m).map encZ) ∧ Fr W w' (fun _ => False) := by
  obtain ⟨X, ⟨rl, hl, hi, _⟩, _⟩ := h
  obtain ⟨D0, hown, hsay⟩ := hl.am
  have hz : Maps.size D0 ≤ N := hown.size_le
  have hso : (idsOf m).Pairwise (· < ·) := List.pairwise_map.2 hp.so
  have hper : (idsOf m).Perm (intKeys D0) := by
    have hnd : (idsOf m).Nodup := hso.imp (fun h => by omega)
    have hmem : ∀ x, x ∈ idsOf m ↔ has D0 (.int .i64 x) = true := by
      intro x
      constructor
      · intro hx
        obtain ⟨r, hr, rfl⟩ := List.mem_map.1 hx
        obtain ⟨y, hy, _⟩ := hp.a1 r hr
        have := (hsay r.id (hin r hr)).1
        rw [show EA.kl r.id = .int .i64 r.id from rfl] at this
        rw [this]
        show ((s.act r.id).map fun x => some x.pb).isSome = true
        rw [hy]
        rfl
      · intro hx
        have hw : In64 x := by
          obtain ⟨es, hD, hko⟩ := hown.keysOf
          rw [hD, has_eq, List.any_eq_true] at hx
          obtain ⟨p, hp', hs⟩ := hx
          obtain ⟨v, hv⟩ := hko p hp'
          obtain ⟨y, _, hy, hl⟩ := Maps.keyOf_i64 Try.underlying2 hv
          rw [hy] at hs
          have : y = x := by simpa [Lit.sameKey] using hs
          subst this
          exact in64_of hl
        have h1 := (hsay x hw).1
        rw [show EA.kl x = .int .i64 x from rfl, hx] at h1
        have h1 : true = ((s.act x).map fun z => some z.pb).isSome := h1
        cases ha : s.act x with
        | none => rw [ha] at h1; cases h1
        | some y =>
          obtain ⟨r, hr, he⟩ := hp.a2 x y ha
          exact List.mem_map.2 ⟨r, hr, he⟩
    exact CollectedI.perm (left := fun _ => false) ⟨hnd, fun x => by rw [hmem x]; simp⟩ hown EA.K Try.underlying2 (fun _ => rfl)
  refine (active_raw hl.c4 hown (by unfold maxLen; omega) (by omega)).mono ?_
  rintro e w' ⟨v, ss, rfl, hS, hrow, hnil, hb⟩
  have hms : ss.mergeSort (fun x y => decide (x ≤ y)) = idsOf m := by
    have h1 := mergeSort_of_perm_i (hS.trans hper.symm)
    have h2 : (idsOf m).mergeSort leI = idsOf m := List.mergeSort_of_pairwise (hso.imp (fun h => by simp only [leI, decide_eq_true_eq]; omega))
    exact h1.trans h2
  have hln : ss.length = m.A.length := by rw [(hS.trans hper.symm).length_eq]; simp [idsOf]
  rw [hms, hln] at hrow
  obtain ⟨a, c, rfl⟩ := shape_n hrow
  exact ⟨a, c, rfl, ownsRow_base hrow (Nat.zero_le _), ⟨hb.os, hb.tape, hb.output, hb.size, fun k hk _ => hb.block k hk⟩⟩
end
end Go.Proofs.Ytiooacaplajidaa
