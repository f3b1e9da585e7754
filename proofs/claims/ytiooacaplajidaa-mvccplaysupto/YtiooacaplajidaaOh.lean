/- The document's Commit. -/
import Derived.Test.YtiooacaplajidaaOg
namespace Go.Proofs.Ytiooacaplajidaa
open Go.RowKit Go.Maps
set_option maxRecDepth 100000
set_option linter.unusedVariables false
set_option linter.unusedSimpArgs false

section
variable {P : Program} {ops : Array Oper} {Q : Exit → Act → World → Prop} {md : Region.Mode} {S : World → Prop} {hold : Nat → Bool}
theorem wpAnyK_two {i j : Nat} {oi oj : Oper} {fuel : Nat} {listed : Array Bool} {a : Act} {w : World} (hr : Region.ready md ops listed = [i, j]) (hi : ops[i]? = some oi) (hj : ops[j]? = some oj) (hgi : oi.guard = none) (hgj : oj.guard = none)
    (h1 : Oper.wp P oi a w (fun a' w' => (hold i = true → S w') ∧ wpAnyK P md ops Q hold S fuel (listed.setIfInBounds i true) a' w') Q)
    (h2 : Oper.wp P oj a w (fun a' w' => (hold j = true → S w') ∧ wpAnyK P md ops Q hold S fuel (listed.setIfInBounds j true) a' w') Q) : wpAnyK P md ops Q hold S (fuel + 1) listed a w := by
  refine ⟨fun h0 => (by rw [hr] at h0; cases h0), fun k hk => ?_⟩
  rw [hr] at hk
  rcases List.mem_cons.1 hk with rfl | hk
  · unfold wpOp
    have gi : Region.wanted oi (yielded ops a.tmps) = true := by simp [Region.wanted, hgi]
    simp only [hi, gi, if_true]
    exact .inl h1
  · obtain rfl : k = j := by simpa using hk
    unfold wpOp
    have gj : Region.wanted oj (yielded ops a.tmps) = true := by simp [Region.wanted, hgj]
    simp only [hj, gj, if_true]
    exact .inl h2
end
def zeroX : Rw := ⟨0, 0, none, 0, 0, []⟩
theorem BoxX.frozen {w : World} {g : Nat} {x : Rw} (h : BoxX w g x) (j : Nat) : w.frozen? ⟨g, j, none⟩ = false := by unfold BoxX at h; simp [World.frozen?, h]
theorem BoxX.put {w : World} {g : Nat} {y : Rw} (h : BoxX w g y) (x : Rw) : BoxX (((w.setCell ⟨g, 0, none⟩ (.int .i64 x.id)).setCell ⟨g, 1, none⟩ (.int .i64 x.st)).setCell ⟨g, 2, none⟩ (.slice x.ka x.kn x.kc)) g x := by
  unfold BoxX at h ⊢
  have h1 := heap_setCell_here w g 0 (.int .i64 x.id) _ 49 (0, 0) h
  have h2 := heap_setCell_here _ g 1 (.int .i64 x.st) _ 49 (0, 0) h1
  have h3 := heap_setCell_here _ g 2 (.slice x.ka x.kn x.kc) _ 49 (0, 0) h2
  rw [h3]
  rfl
theorem Fr.set3x (w : World) (g : Nat) (v1 v2 v3 : Value) : Fr w (((w.setCell ⟨g, 0, none⟩ v1).setCell ⟨g, 1, none⟩ v2).setCell ⟨g, 2, none⟩ v3) (fun k => k = g) :=
  (((Fr.setCell w ⟨g, 0, none⟩ v1).trans (Fr.setCell _ ⟨g, 1, none⟩ v2)).trans (Fr.setCell _ ⟨g, 2, none⟩ v3)).mono (fun k _ h => by rcases h with (h | h) | h <;> exact h)
theorem First.unique {m : Dm} {t : Int} {i j : Nat} {x y : Rw} (h : First m t i x) (k : First m t j y) : i = j ∧ x = y := by
  have e : i = j := by
    rcases Nat.lt_trichotomy i j with q | q | q
    · exact absurd h.2.1 (k.2.2 i x q h.1)
    · exact q
    · exact absurd k.2.1 (h.2.2 j y q k.1)
  subst e
  have := h.1
  rw [k.1] at this
  cases this
  exact ⟨rfl, rfl⟩
/-- What the boxes look like ahead of the end. -/
structure Mid (w Z : World) (m : Dm) (x : Rw) (gx : Nat) : Prop where
  bm : BoxM Z w.heap.size m
  bz : BoxM Z (w.heap.size + 1) zeroM
  bx : BoxX Z gx x
  f : Fr w Z (fun _ => False)
  g : w.heap.size + 1 < gx
  gl : gx < Z.heap.size
def erased (m : Dm) (i : Nat) : List Rw := m.A.take i ++ m.A.drop (i + 1)
/-- What Commit leaves. -/
def CommitD (Q : Nat → Prop) (w : World) (m : Dm) (t : Int) (e : Ending) (w' : World) : Prop :=
  ∃ a b, ChkD m t a b ∧ Fr w w' (fun _ => False) ∧
   ((b ≠ 0 ∧ b ≠ 120 ∧ e = .returned (.tuple #[m.agg, .int .i64 0, .int .i64 b]) ∧ DM Q w' m) ∨
    (∃ (i : Nat) (x : Rw) (aa : Option Addr) (ac : Nat), First m t i x ∧ ((b = 0 ∧ x.K = []) ∨ b = 120) ∧ e = .returned (.tuple #[({ m with aa := aa, ac := ac, A := erased m i } : Dm).agg, .int .i64 a, .int .i64 b]) ∧ DM Q w' { m with aa := aa, ac := ac, A := erased m i }) ∨
    (∃ (i : Nat) (x : Rw) (aa : Option Addr) (ac : Nat) (ha : Option Addr) (hc : Nat), First m t i x ∧ b = 0 ∧ x.K ≠ [] ∧ e = .returned (.tuple #[({ m with last := a, aa := aa, ac := ac, A := erased m i, ha := ha, hc := hc, H := m.H ++ [⟨t, a, x.ka, x.kn, x.kc, x.K⟩] } : Dm).agg, .int .i64 a, .int .i64 b]) ∧ DM Q w' { m with last := a, aa := aa, ac := ac, A := erased m i, ha := ha, hc := hc, H := m.H ++ [⟨t, a, x.ka, x.kn, x.kc, x.K⟩] }))
set_option maxHeartbeats 16000000 in
theorem commit_ref {Q : Nat → Prop} {w : World} {m : Dm} (h : DM Q w m) (hQ : ∀ k, w.heap.size ≤ k → Q k) (hnb : m.A.length ≤ 1048576) (hhb : m.H.length ≤ 1048576) (hkb : ∀ x, (x ∈ m.A ∨ x ∈ m.H) → x.K.length ≤ 1048576) (t : Int) (h0 : 0 ≤ m.last) (h1 : m.last ≤ 1099511627776) : Calls Try.prog 26 #[m.agg, .int .i64 t] w fun e w' => CommitD Q w m t e w' := by
  obtain ⟨hb, hz, hf⟩ := two_boxes w m
  obtain ⟨w2, hw2⟩ : ∃ w2, w2 = ((w.alloc (.cells #[.int .i64 m.now, .int .i64 m.last, .int .i64 m.begun, .slice m.aa m.A.length m.ac, .slice m.ha m.H.length m.hc] 29)).alloc (.cells #[.int .i64 0, .int .i64 0, .int .i64 0, .slice none 0 0, .slice none 0 0] 29)) := ⟨_, rfl⟩
  rw [← hw2] at hb hz hf
  have HW2 := hide hw2
  clear hw2
  have hg1 : w.heap.size + 1 < w2.heap.size := hz.lt
  have HCH := hide (check_ref (h.frF hf) hnb hhb hkb t h0 h1)
  unfold Dm.agg at HCH
  obtain ⟨⟨a0, a1, a2, a3, a4⟩, _⟩ := hb.all
  have HB := hide hb
  have HZ := hide hz
  have HF := hide hf
  have HD := hide h
  have HQ := hide hQ
  clear hb hz hf h hQ hkb
  unfold Dm.agg
  go_enter Try.func26, Try.ntmps26
  go_wp2_with (rw [← HW2.out]; clear HW2)
  refine HCH.out.mono ?_
  rintro e V ⟨a, b, rfl, hch, fV⟩
  have HCK := hide hch
  have hbV := HB.out.fr fV (fun h => h)
  have hzV := HZ.out.fr fV (fun h => h)
  have hfV := HF.out.two fV
  have hsV : w2.heap.size ≤ V.heap.size := fV.size
  rcases hch with ⟨_, rfl, rfl⟩ | ⟨i, x, hfst, ⟨hk0, rfl, rfl⟩ | ⟨hk0, hhit, rfl, rfl⟩ | ⟨hk0, hnh, ⟨_, rfl, rfl⟩ | ⟨hst, rfl, rfl⟩⟩⟩
  · -- nothing is changed
    obtain ⟨⟨b0, b1, b2, b3, b4⟩, _⟩ := hbV.all
    obtain ⟨⟨g0, g1, g2, g3, g4⟩, i0, i1, i2, i3, i4⟩ := hzV.all
    have HO := out_box (m := m) hzV (by omega) hfV
    clear hbV hzV hfV fV a0 a1 a2 a3 a4 HCH
    go_wp2
    exact bodyPost_ret (results_m3 Try.results26 _ _ (w.heap.size + 1) HO.out.1 rfl) rfl ⟨_, _, HCK.out, HO.out.2, .inl ⟨by omega, by omega, rfl, HD.out.frF HO.out.2⟩⟩
  · have HFST := hide hfst
    clear hfst
    have HK0 := hide hk0
    have HKN := hide (HD.out.1.2.2 x (List.mem_of_getElem? HFST.out.1)).1
    clear hk0
    have D := Fr.drew V (fun _ => False)
    have hDU := HD.out.frF (hfV.two D)
    have hil : i < m.A.length := (List.getElem?_eq_some_iff.1 HFST.out.1).1
    obtain ⟨ga, hga, e0, e1, e2⟩ := RowW.at hDU.1 HFST.out.1
    have HBU := hide (hbV.fr D (fun h => h))
    have HZU := hide (hzV.fr D (fun h => h))
    have HFU := hide (hfV.two D)
    have HDU := hide hDU
    obtain ⟨⟨b0, b1, b2, b3, b4⟩, _⟩ := HBU.out.all
    have b3' := b3
    rw [hga] at b3'
    have HGA := hide hga
    have hsU : V.heap.size ≤ V.drew.heap.size := D.size
    clear hbV hzV hfV fV D hDU a0 a1 a2 a3 a4 HCH hga
    go_wp2_with fail
    refine wp_region_K (fun _ => true) (fun U : World => Fr V.drew U (fun _ => False)) (by kernel_rfl) ?_
    generalize V.drew = U at *
    have hS : (fun V : World => Fr U V (fun _ => False)) U := Fr.refl _ _
    refine wpAnyK_takeTo 0 (some 25) (.pointer (some ⟨w.heap.size, 3, none⟩)) [1, 5, 6, 8] rfl rfl (by kernel_rfl) (by kernel_rfl) (by kernel_rfl) (by kernel_rfl) (fun _ _ _ h => h) hS (Or.inl ⟨rfl, fun w9 hw1 => by have hw1 : Fr U w9 (fun _ => False) := hw1; have s0 := hw1.cell (fun h => h) b0; have s1 := hw1.cell (fun h => h) b1; have s2 := hw1.cell (fun h => h) b2; have s3 := hw1.cell (fun h => h) b3'; have s4 := hw1.cell (fun h => h) b4; go_simp⟩) ?_
    simp only [Act.put, List.setIfInBounds_toArray, List.set_cons_zero, List.set_cons_succ]
    refine wpAnyK_takeTo 1 (some 26) (.slice (some ⟨ga, 0, none⟩) m.A.length m.ac) [5, 6, 8] rfl rfl (by kernel_rfl) (by kernel_rfl) (by kernel_rfl) (by kernel_rfl) (fun _ _ _ h => h) hS (Or.inl ⟨rfl, fun w9 hw1 => by have hw1 : Fr U w9 (fun _ => False) := hw1; have s0 := hw1.cell (fun h => h) b0; have s1 := hw1.cell (fun h => h) b1; have s2 := hw1.cell (fun h => h) b2; have s3 := hw1.cell (fun h => h) b3'; have s4 := hw1.cell (fun h => h) b4; go_simp⟩) ?_
    simp only [Act.put, List.setIfInBounds_toArray, List.set_cons_zero, List.set_cons_succ]
    refine wpAnyK_takeTo 2 (some 27) (.agg #[.int .i64 m.now, .int .i64 m.last, .int .i64 m.begun, .slice m.aa m.A.length m.ac, .slice m.ha m.H.length m.hc]) [4, 5, 6, 8] rfl rfl (by kernel_rfl) (by kernel_rfl) (by kernel_rfl) (by kernel_rfl) (fun _ _ _ h => h) hS (Or.inl ⟨rfl, fun w9 hw1 => by have hw1 : Fr U w9 (fun _ => False) := hw1; have s0 := hw1.cell (fun h => h) b0; have s1 := hw1.cell (fun h => h) b1; have s2 := hw1.cell (fun h => h) b2; have s3 := hw1.cell (fun h => h) b3; have s4 := hw1.cell (fun h => h) b4; go_simp⟩) ?_
    simp only [Act.put, List.setIfInBounds_toArray, List.set_cons_zero, List.set_cons_succ]
    refine wpAnyK_takeTo 3 (some 28) (.int .i64 t) [4, 5, 6, 8] rfl rfl (by kernel_rfl) (by kernel_rfl) (by kernel_rfl) (by kernel_rfl) (fun _ _ _ h => h) hS (Or.inl ⟨rfl, fun w9 hw1 => by have hw1 : Fr U w9 (fun _ => False) := hw1; have s0 := hw1.cell (fun h => h) b0; have s1 := hw1.cell (fun h => h) b1; have s2 := hw1.cell (fun h => h) b2; have s3 := hw1.cell (fun h => h) b3; have s4 := hw1.cell (fun h => h) b4; go_simp⟩) ?_
    simp only [Act.put, List.setIfInBounds_toArray, List.set_cons_zero, List.set_cons_succ]
    have hFIND : ∀ W : World, Fr U W (fun _ => False) → Calls Try.prog 29 #[.agg #[.int .i64 m.now, .int .i64 m.last, .int .i64 m.begun, .slice m.aa m.A.length m.ac, .slice m.ha m.H.length m.hc], .int .i64 t] W fun e w' => e = .returned (.int .i64 (i : Int)) ∧ Fr W w' (fun _ => False) := fun W hW => by
      refine (find_ref (HDU.out.frF hW) t hnb).mono ?_
      rintro e w' ⟨q1, ⟨i', x', q2, q3, q4, rfl⟩ | ⟨q2, _⟩⟩
      · obtain ⟨rfl, _⟩ := First.unique HFST.out (⟨q2, q3, q4⟩ : First m t i' x')
        exact ⟨rfl, q1⟩
      · exact absurd HFST.out.2.1 (q2 x (List.mem_of_getElem? HFST.out.1))
    have HFIND := hide hFIND
    clear hFIND
    refine wpAnyK_two (i := 4) (j := 7) (by kernel_rfl) rfl rfl rfl rfl ?_ ?_
    · refine wp_call_to (some 29) rfl 29 #[.agg #[.int .i64 m.now, .int .i64 m.last, .int .i64 m.begun, .slice m.aa m.A.length m.ac, .slice m.ha m.H.length m.hc], .int .i64 t] (by go_simp) (HFIND.out U (Fr.refl _ _)) ?_
      rintro e V2 ⟨rfl, f2⟩
      refine ⟨_, rfl, fun _ => f2, ?_⟩
      simp only [Act.put, List.setIfInBounds_toArray, List.set_cons_zero, List.set_cons_succ]
      clear hS
      have hS : (fun V : World => Fr U V (fun _ => False)) V2 := f2
      refine wpAnyK_takeTo 5 (some 30) (.pointer (some ⟨ga, i * 3, none⟩)) [6, 8] rfl rfl (by kernel_rfl) (by kernel_rfl) (by kernel_rfl) (by kernel_rfl) (fun _ _ _ h => h) hS (Or.inl ⟨rfl, fun w9 hw1 => by have hw1 : Fr U w9 (fun _ => False) := hw1; have s0 := hw1.cell (fun h => h) e0; have s1 := hw1.cell (fun h => h) e1; have s2 := hw1.cell (fun h => h) e2; go_simp⟩) ?_
      simp only [Act.put, List.setIfInBounds_toArray, List.set_cons_zero, List.set_cons_succ]
      refine wpAnyK_takeTo 6 (some 31) (.agg #[.int .i64 x.id, .int .i64 x.st, .slice x.ka x.kn x.kc]) [8] rfl rfl (by kernel_rfl) (by kernel_rfl) (by kernel_rfl) (by kernel_rfl) (fun _ _ _ h => h) hS (Or.inl ⟨rfl, fun w9 hw1 => by have hw1 : Fr U w9 (fun _ => False) := hw1; have s0 := hw1.cell (fun h => h) e0; have s1 := hw1.cell (fun h => h) e1; have s2 := hw1.cell (fun h => h) e2; go_simp⟩) ?_
      simp only [Act.put, List.setIfInBounds_toArray, List.set_cons_zero, List.set_cons_succ]
      refine wpAnyK_one (i := 7) (by kernel_rfl) rfl rfl ?_
      go_simp
      have fz := Fr.alloc V2 (.cells #[.int .i64 0, .int .i64 0, .slice none 0 0] 49) (fun _ => False)
      have hbx : BoxX (V2.alloc (.cells #[.int .i64 0, .int .i64 0, .slice none 0 0] 49)) V2.heap.size zeroX := heap_alloc_new V2 _
      refine ⟨f2.two fz, ?_⟩
      have hgx : U.heap.size ≤ V2.heap.size := f2.size
      obtain ⟨gx, hgx0⟩ : ∃ gx, gx = V2.heap.size := ⟨_, rfl⟩
      rw [← hgx0] at hbx hgx ⊢
      have hgl : gx < (V2.alloc (.cells #[.int .i64 0, .int .i64 0, .slice none 0 0] 49)).heap.size := (Array.getElem?_eq_some_iff.1 hbx).1
      have fz2 : Fr U (V2.alloc (.cells #[.int .i64 0, .int .i64 0, .slice none 0 0] 49)) (fun _ => False) := f2.two fz
      clear hgx0 fz f2 hS
      generalize V2.alloc (.cells #[.int .i64 0, .int .i64 0, .slice none 0 0] 49) = Z0 at *
      obtain ⟨p0, p1, p2⟩ := hbx.cells
      have q0 := hbx.frozen 0
      have q1 := hbx.frozen 1
      have q2 := hbx.frozen 2
      obtain ⟨Z, hZ⟩ : ∃ Z, Z = ((Z0.setCell ⟨gx, 0, none⟩ (.int .i64 x.id)).setCell ⟨gx, 1, none⟩ (.int .i64 x.st)).setCell ⟨gx, 2, none⟩ (.slice x.ka x.kn x.kc) := ⟨_, rfl⟩
      have FZ : Fr Z0 Z (fun k => k = gx) := by rw [hZ]; exact Fr.set3x _ _ _ _ _
      have HUZ : Hid (Fr U Z (fun _ => False)) := hide ((fz2.trans FZ).mono (fun k hk h => by rcases h with h | h; exact h; (have h : k = gx := h; omega)))
      have hgU : w.heap.size + 1 < U.heap.size := by omega
      have HM : Hid (Mid w Z m x gx) := hide ⟨HBU.out.fr HUZ.out (fun h => h), HZU.out.fr HUZ.out (fun h => h), by rw [hZ]; exact hbx.put x, HFU.out.two HUZ.out, by omega, by have := FZ.size; omega⟩
      have HZE := hide hZ
      refine wpAnyK_one (i := 8) (by kernel_rfl) rfl rfl ?_
      go_simp
      rw [← HZE.out]
      refine ⟨HUZ.out, ?_⟩
      refine wpAnyK_done (by kernel_rfl) ?_ _
      clear hZ FZ p0 p1 p2 q0 q1 q2 hbx e0 e1 e2 b0 b1 b2 b3 b4 b3' fz2 HZE
      have hQ' : ∀ k, Z.heap.size ≤ k → (fun k => Q k ∧ (k < w.heap.size ∨ Z.heap.size ≤ k)) k := fun k hk => ⟨HQ.out k (by have := HM.out.f.size; omega), .inr hk⟩
      have hDZ : DM (fun k => Q k ∧ (k < w.heap.size ∨ Z.heap.size ≤ k)) Z m := (HD.out.imp (fun k hk hq => ⟨hq, .inl hk⟩)).frF HM.out.f
      have HWO := hide (without_ref hDZ hQ' hnb t i x HFST.out.1 HFST.out.2.1 HFST.out.2.2)
      obtain ⟨LL, hLL⟩ : ∃ LL, LL = m.A.take i ++ m.A.drop (i + 1) := ⟨_, rfl⟩
      rw [← hLL] at HWO
      unfold Dm.agg at HWO
      have HLL := hide hLL
      obtain ⟨⟨b0, b1, b2, b3, b4⟩, _⟩ := HM.out.bm.all
      have HDX := hide (hDZ.1.2.2 x (List.mem_of_getElem? HFST.out.1))
      clear hQ' hDZ hLL
      dsimp only at HWO
      generalize hnA : m.A.length = nA at *
      clear hnA
      go_wp2_with fail
      refine HWO.out.mono ?_
      rintro e V3 ⟨a3, c3, rfl, hD3, f3⟩
      have hbz3 := HM.out.bz.fr f3 (fun h => h)
      have hbx3 := HM.out.bx.fr f3 (fun h => h)
      obtain ⟨⟨c0, c1, c2, c3', c4⟩, j0, j1, j2, j3, j4⟩ := (HM.out.bm.fr f3 (fun h => h)).all
      obtain ⟨W3, hW3⟩ : ∃ W3, W3 = ((((V3.setCell ⟨w.heap.size, 0, none⟩ (.int .i64 m.now)).setCell ⟨w.heap.size, 1, none⟩ (.int .i64 m.last)).setCell ⟨w.heap.size, 2, none⟩ (.int .i64 m.begun)).setCell ⟨w.heap.size, 3, none⟩ (.slice a3 LL.length c3)).setCell ⟨w.heap.size, 4, none⟩ (.slice m.ha m.H.length m.hc) := ⟨_, rfl⟩
      have F3 : Fr V3 W3 (fun k => k = w.heap.size) := by rw [hW3]; exact Fr.set5 _ _ 0 1 2 3 4 _ _ _ _ _
      have hb3 : BoxM W3 w.heap.size { m with aa := a3, ac := c3, A := LL } := by rw [hW3]; exact (HM.out.bm.fr f3 (fun h => h)).put { m with aa := a3, ac := c3, A := LL }
      have hnq : ∀ k, (Q k ∧ (k < w.heap.size ∨ Z.heap.size ≤ k)) → ¬ (k = w.heap.size ∨ k = w.heap.size + 1 ∨ k = gx) := fun k hk h => by
        have h1 := HM.out.g
        have h2 := HM.out.gl
        rcases hk.2 with q | q <;> rcases h with h | h | h <;> omega
      have hD3' := hD3.fr F3 (fun k hk h => hnq k hk (.inl h))
      have hz3 := hbz3.fr F3 (fun h => by have h : w.heap.size + 1 = w.heap.size := h; omega)
      have hx3 := hbx3.fr F3 (fun h => by have h : gx = w.heap.size := h; have := HM.out.g; omega)
      have hf3 : Fr w W3 (fun _ => False) := ((HM.out.f.two f3).trans F3).mono (fun k hk h => by rcases h with h | h; exact h; (have h : k = w.heap.size := h; omega))
      have HW3 := hide hW3
      obtain ⟨⟨k0, k1, k2, k3, k4⟩, l0, l1, l2, l3, l4⟩ := hb3.all
      obtain ⟨⟨g0, g1, g2, g3, g4⟩, i0, i1, i2, i3, i4⟩ := hz3.all
      obtain ⟨x0, x1, x2⟩ := hx3.cells
      dsimp only at k0 k1 k2 k3 k4
      clear hW3 hD3 hbz3 hbx3 b0 b1 b2 b3 b4
      have HO := out_box (m := { m with aa := a3, ac := c3, A := LL }) hz3 (by omega) hf3
      have HDM : Hid (∀ w', Fr W3 w' (fun k => k = w.heap.size + 1) → DM Q w' { m with aa := a3, ac := c3, A := LL }) := hide (fun w' q => (hD3'.fr q (fun k hk h => hnq k hk (.inr (.inl h)))).imp (fun k _ hk => hk.1))
      have HST := hide (Fr.set5 W3 (w.heap.size + 1) 0 1 2 3 4 (.int .i64 m.now) (.int .i64 m.last) (.int .i64 m.begun) (.slice a3 LL.length c3) (.slice m.ha m.H.length m.hc))
      dsimp only at HO
      clear hb3 hz3 hx3 hf3 hD3' hnq F3 f3 HWO
      have hkn : x.kn = 0 := by rw [← HKN.out, HK0.out]; rfl
      rw [hkn] at x2
      go_wp2_with (rw [← HW3.out]; clear HW3)
      exact bodyPost_ret (results_m3 Try.results26 _ _ (w.heap.size + 1) HO.out.1 rfl) rfl ⟨_, _, HCK.out, HO.out.2, .inr (.inl ⟨i, x, a3, c3, HFST.out, .inl ⟨rfl, HK0.out⟩, by rw [show erased m i = LL from HLL.out.symm]; rfl, by rw [show erased m i = LL from HLL.out.symm]; exact HDM.out _ HST.out⟩)⟩
    · go_simp
      have fz := Fr.alloc U (.cells #[.int .i64 0, .int .i64 0, .slice none 0 0] 49) (fun _ => False)
      have hbx0 : BoxX (U.alloc (.cells #[.int .i64 0, .int .i64 0, .slice none 0 0] 49)) U.heap.size zeroX := heap_alloc_new U _
      refine ⟨fz, ?_⟩
      have hgx : U.heap.size ≤ U.heap.size := Nat.le_refl _
      obtain ⟨gx, hgx0⟩ : ∃ gx, gx = U.heap.size := ⟨_, rfl⟩
      have hgx2 : U.heap.size ≤ gx := by omega
      rw [← hgx0] at hbx0 ⊢
      clear hS hgx hgx0
      generalize U.alloc (.cells #[.int .i64 0, .int .i64 0, .slice none 0 0] 49) = U1 at *
      refine wpAnyK_one (i := 4) (by kernel_rfl) rfl rfl ?_
      refine wp_call_to (some 29) rfl 29 #[.agg #[.int .i64 m.now, .int .i64 m.last, .int .i64 m.begun, .slice m.aa m.A.length m.ac, .slice m.ha m.H.length m.hc], .int .i64 t] (by go_simp) (HFIND.out U1 fz) ?_
      rintro e Z0 ⟨rfl, f2⟩
      have fz2 := fz.two f2
      refine ⟨_, rfl, fun _ => fz2, ?_⟩
      simp only [Act.put, List.setIfInBounds_toArray, List.set_cons_zero, List.set_cons_succ]
      have hS : (fun V : World => Fr U V (fun _ => False)) Z0 := fz2
      refine wpAnyK_takeTo 5 (some 30) (.pointer (some ⟨ga, i * 3, none⟩)) [6, 8] rfl rfl (by kernel_rfl) (by kernel_rfl) (by kernel_rfl) (by kernel_rfl) (fun _ _ _ h => h) hS (Or.inl ⟨rfl, fun w9 hw1 => by have hw1 : Fr U w9 (fun _ => False) := hw1; have s0 := hw1.cell (fun h => h) e0; have s1 := hw1.cell (fun h => h) e1; have s2 := hw1.cell (fun h => h) e2; go_simp⟩) ?_
      simp only [Act.put, List.setIfInBounds_toArray, List.set_cons_zero, List.set_cons_succ]
      refine wpAnyK_takeTo 6 (some 31) (.agg #[.int .i64 x.id, .int .i64 x.st, .slice x.ka x.kn x.kc]) [8] rfl rfl (by kernel_rfl) (by kernel_rfl) (by kernel_rfl) (by kernel_rfl) (fun _ _ _ h => h) hS (Or.inl ⟨rfl, fun w9 hw1 => by have hw1 : Fr U w9 (fun _ => False) := hw1; have s0 := hw1.cell (fun h => h) e0; have s1 := hw1.cell (fun h => h) e1; have s2 := hw1.cell (fun h => h) e2; go_simp⟩) ?_
      simp only [Act.put, List.setIfInBounds_toArray, List.set_cons_zero, List.set_cons_succ]
      have hbx := hbx0.fr f2 (fun h => h)
      have hgx : U.heap.size ≤ gx := hgx2
      have hgl : gx < Z0.heap.size := (Array.getElem?_eq_some_iff.1 hbx).1
      clear hbx0 fz f2 hS hgx2
      obtain ⟨p0, p1, p2⟩ := hbx.cells
      have q0 := hbx.frozen 0
      have q1 := hbx.frozen 1
      have q2 := hbx.frozen 2
      obtain ⟨Z, hZ⟩ : ∃ Z, Z = ((Z0.setCell ⟨gx, 0, none⟩ (.int .i64 x.id)).setCell ⟨gx, 1, none⟩ (.int .i64 x.st)).setCell ⟨gx, 2, none⟩ (.slice x.ka x.kn x.kc) := ⟨_, rfl⟩
      have FZ : Fr Z0 Z (fun k => k = gx) := by rw [hZ]; exact Fr.set3x _ _ _ _ _
      have HUZ : Hid (Fr U Z (fun _ => False)) := hide ((fz2.trans FZ).mono (fun k hk h => by rcases h with h | h; exact h; (have h : k = gx := h; omega)))
      have hgU : w.heap.size + 1 < U.heap.size := by omega
      have HM : Hid (Mid w Z m x gx) := hide ⟨HBU.out.fr HUZ.out (fun h => h), HZU.out.fr HUZ.out (fun h => h), by rw [hZ]; exact hbx.put x, HFU.out.two HUZ.out, by omega, by have := FZ.size; omega⟩
      have HZE := hide hZ
      refine wpAnyK_one (i := 8) (by kernel_rfl) rfl rfl ?_
      go_simp
      rw [← HZE.out]
      refine ⟨HUZ.out, ?_⟩
      refine wpAnyK_done (by kernel_rfl) ?_ _
      clear hZ FZ p0 p1 p2 q0 q1 q2 hbx e0 e1 e2 b0 b1 b2 b3 b4 b3' fz2 HZE
      have hQ' : ∀ k, Z.heap.size ≤ k → (fun k => Q k ∧ (k < w.heap.size ∨ Z.heap.size ≤ k)) k := fun k hk => ⟨HQ.out k (by have := HM.out.f.size; omega), .inr hk⟩
      have hDZ : DM (fun k => Q k ∧ (k < w.heap.size ∨ Z.heap.size ≤ k)) Z m := (HD.out.imp (fun k hk hq => ⟨hq, .inl hk⟩)).frF HM.out.f
      have HWO := hide (without_ref hDZ hQ' hnb t i x HFST.out.1 HFST.out.2.1 HFST.out.2.2)
      obtain ⟨LL, hLL⟩ : ∃ LL, LL = m.A.take i ++ m.A.drop (i + 1) := ⟨_, rfl⟩
      rw [← hLL] at HWO
      unfold Dm.agg at HWO
      have HLL := hide hLL
      obtain ⟨⟨b0, b1, b2, b3, b4⟩, _⟩ := HM.out.bm.all
      have HDX := hide (hDZ.1.2.2 x (List.mem_of_getElem? HFST.out.1))
      clear hQ' hDZ hLL
      dsimp only at HWO
      generalize hnA : m.A.length = nA at *
      clear hnA
      go_wp2_with fail
      refine HWO.out.mono ?_
      rintro e V3 ⟨a3, c3, rfl, hD3, f3⟩
      have hbz3 := HM.out.bz.fr f3 (fun h => h)
      have hbx3 := HM.out.bx.fr f3 (fun h => h)
      obtain ⟨⟨c0, c1, c2, c3', c4⟩, j0, j1, j2, j3, j4⟩ := (HM.out.bm.fr f3 (fun h => h)).all
      obtain ⟨W3, hW3⟩ : ∃ W3, W3 = ((((V3.setCell ⟨w.heap.size, 0, none⟩ (.int .i64 m.now)).setCell ⟨w.heap.size, 1, none⟩ (.int .i64 m.last)).setCell ⟨w.heap.size, 2, none⟩ (.int .i64 m.begun)).setCell ⟨w.heap.size, 3, none⟩ (.slice a3 LL.length c3)).setCell ⟨w.heap.size, 4, none⟩ (.slice m.ha m.H.length m.hc) := ⟨_, rfl⟩
      have F3 : Fr V3 W3 (fun k => k = w.heap.size) := by rw [hW3]; exact Fr.set5 _ _ 0 1 2 3 4 _ _ _ _ _
      have hb3 : BoxM W3 w.heap.size { m with aa := a3, ac := c3, A := LL } := by rw [hW3]; exact (HM.out.bm.fr f3 (fun h => h)).put { m with aa := a3, ac := c3, A := LL }
      have hnq : ∀ k, (Q k ∧ (k < w.heap.size ∨ Z.heap.size ≤ k)) → ¬ (k = w.heap.size ∨ k = w.heap.size + 1 ∨ k = gx) := fun k hk h => by
        have h1 := HM.out.g
        have h2 := HM.out.gl
        rcases hk.2 with q | q <;> rcases h with h | h | h <;> omega
      have hD3' := hD3.fr F3 (fun k hk h => hnq k hk (.inl h))
      have hz3 := hbz3.fr F3 (fun h => by have h : w.heap.size + 1 = w.heap.size := h; omega)
      have hx3 := hbx3.fr F3 (fun h => by have h : gx = w.heap.size := h; have := HM.out.g; omega)
      have hf3 : Fr w W3 (fun _ => False) := ((HM.out.f.two f3).trans F3).mono (fun k hk h => by rcases h with h | h; exact h; (have h : k = w.heap.size := h; omega))
      have HW3 := hide hW3
      obtain ⟨⟨k0, k1, k2, k3, k4⟩, l0, l1, l2, l3, l4⟩ := hb3.all
      obtain ⟨⟨g0, g1, g2, g3, g4⟩, i0, i1, i2, i3, i4⟩ := hz3.all
      obtain ⟨x0, x1, x2⟩ := hx3.cells
      dsimp only at k0 k1 k2 k3 k4
      clear hW3 hD3 hbz3 hbx3 b0 b1 b2 b3 b4
      have HO := out_box (m := { m with aa := a3, ac := c3, A := LL }) hz3 (by omega) hf3
      have HDM : Hid (∀ w', Fr W3 w' (fun k => k = w.heap.size + 1) → DM Q w' { m with aa := a3, ac := c3, A := LL }) := hide (fun w' q => (hD3'.fr q (fun k hk h => hnq k hk (.inr (.inl h)))).imp (fun k _ hk => hk.1))
      have HST := hide (Fr.set5 W3 (w.heap.size + 1) 0 1 2 3 4 (.int .i64 m.now) (.int .i64 m.last) (.int .i64 m.begun) (.slice a3 LL.length c3) (.slice m.ha m.H.length m.hc))
      dsimp only at HO
      clear hb3 hz3 hx3 hf3 hD3' hnq F3 f3 HWO
      have hkn : x.kn = 0 := by rw [← HKN.out, HK0.out]; rfl
      rw [hkn] at x2
      go_wp2_with (rw [← HW3.out]; clear HW3)
      exact bodyPost_ret (results_m3 Try.results26 _ _ (w.heap.size + 1) HO.out.1 rfl) rfl ⟨_, _, HCK.out, HO.out.2, .inr (.inl ⟨i, x, a3, c3, HFST.out, .inl ⟨rfl, HK0.out⟩, by rw [show erased m i = LL from HLL.out.symm]; rfl, by rw [show erased m i = LL from HLL.out.symm]; exact HDM.out _ HST.out⟩)⟩
  · have HFST := hide hfst
    clear hfst
    clear hk0 hhit
    have D := Fr.drew V (fun _ => False)
    have hDU := HD.out.frF (hfV.two D)
    have hil : i < m.A.length := (List.getElem?_eq_some_iff.1 HFST.out.1).1
    obtain ⟨ga, hga, e0, e1, e2⟩ := RowW.at hDU.1 HFST.out.1
    have HBU := hide (hbV.fr D (fun h => h))
    have HZU := hide (hzV.fr D (fun h => h))
    have HFU := hide (hfV.two D)
    have HDU := hide hDU
    obtain ⟨⟨b0, b1, b2, b3, b4⟩, _⟩ := HBU.out.all
    have b3' := b3
    rw [hga] at b3'
    have HGA := hide hga
    have hsU : V.heap.size ≤ V.drew.heap.size := D.size
    clear hbV hzV hfV fV D hDU a0 a1 a2 a3 a4 HCH hga
    go_wp2_with fail
    refine wp_region_K (fun _ => true) (fun U : World => Fr V.drew U (fun _ => False)) (by kernel_rfl) ?_
    generalize V.drew = U at *
    have hS : (fun V : World => Fr U V (fun _ => False)) U := Fr.refl _ _
    refine wpAnyK_takeTo 0 (some 25) (.pointer (some ⟨w.heap.size, 3, none⟩)) [1, 5, 6, 8] rfl rfl (by kernel_rfl) (by kernel_rfl) (by kernel_rfl) (by kernel_rfl) (fun _ _ _ h => h) hS (Or.inl ⟨rfl, fun w9 hw1 => by have hw1 : Fr U w9 (fun _ => False) := hw1; have s0 := hw1.cell (fun h => h) b0; have s1 := hw1.cell (fun h => h) b1; have s2 := hw1.cell (fun h => h) b2; have s3 := hw1.cell (fun h => h) b3'; have s4 := hw1.cell (fun h => h) b4; go_simp⟩) ?_
    simp only [Act.put, List.setIfInBounds_toArray, List.set_cons_zero, List.set_cons_succ]
    refine wpAnyK_takeTo 1 (some 26) (.slice (some ⟨ga, 0, none⟩) m.A.length m.ac) [5, 6, 8] rfl rfl (by kernel_rfl) (by kernel_rfl) (by kernel_rfl) (by kernel_rfl) (fun _ _ _ h => h) hS (Or.inl ⟨rfl, fun w9 hw1 => by have hw1 : Fr U w9 (fun _ => False) := hw1; have s0 := hw1.cell (fun h => h) b0; have s1 := hw1.cell (fun h => h) b1; have s2 := hw1.cell (fun h => h) b2; have s3 := hw1.cell (fun h => h) b3'; have s4 := hw1.cell (fun h => h) b4; go_simp⟩) ?_
    simp only [Act.put, List.setIfInBounds_toArray, List.set_cons_zero, List.set_cons_succ]
    refine wpAnyK_takeTo 2 (some 27) (.agg #[.int .i64 m.now, .int .i64 m.last, .int .i64 m.begun, .slice m.aa m.A.length m.ac, .slice m.ha m.H.length m.hc]) [4, 5, 6, 8] rfl rfl (by kernel_rfl) (by kernel_rfl) (by kernel_rfl) (by kernel_rfl) (fun _ _ _ h => h) hS (Or.inl ⟨rfl, fun w9 hw1 => by have hw1 : Fr U w9 (fun _ => False) := hw1; have s0 := hw1.cell (fun h => h) b0; have s1 := hw1.cell (fun h => h) b1; have s2 := hw1.cell (fun h => h) b2; have s3 := hw1.cell (fun h => h) b3; have s4 := hw1.cell (fun h => h) b4; go_simp⟩) ?_
    simp only [Act.put, List.setIfInBounds_toArray, List.set_cons_zero, List.set_cons_succ]
    refine wpAnyK_takeTo 3 (some 28) (.int .i64 t) [4, 5, 6, 8] rfl rfl (by kernel_rfl) (by kernel_rfl) (by kernel_rfl) (by kernel_rfl) (fun _ _ _ h => h) hS (Or.inl ⟨rfl, fun w9 hw1 => by have hw1 : Fr U w9 (fun _ => False) := hw1; have s0 := hw1.cell (fun h => h) b0; have s1 := hw1.cell (fun h => h) b1; have s2 := hw1.cell (fun h => h) b2; have s3 := hw1.cell (fun h => h) b3; have s4 := hw1.cell (fun h => h) b4; go_simp⟩) ?_
    simp only [Act.put, List.setIfInBounds_toArray, List.set_cons_zero, List.set_cons_succ]
    have hFIND : ∀ W : World, Fr U W (fun _ => False) → Calls Try.prog 29 #[.agg #[.int .i64 m.now, .int .i64 m.last, .int .i64 m.begun, .slice m.aa m.A.length m.ac, .slice m.ha m.H.length m.hc], .int .i64 t] W fun e w' => e = .returned (.int .i64 (i : Int)) ∧ Fr W w' (fun _ => False) := fun W hW => by
      refine (find_ref (HDU.out.frF hW) t hnb).mono ?_
      rintro e w' ⟨q1, ⟨i', x', q2, q3, q4, rfl⟩ | ⟨q2, _⟩⟩
      · obtain ⟨rfl, _⟩ := First.unique HFST.out (⟨q2, q3, q4⟩ : First m t i' x')
        exact ⟨rfl, q1⟩
      · exact absurd HFST.out.2.1 (q2 x (List.mem_of_getElem? HFST.out.1))
    have HFIND := hide hFIND
    clear hFIND
    refine wpAnyK_two (i := 4) (j := 7) (by kernel_rfl) rfl rfl rfl rfl ?_ ?_
    · refine wp_call_to (some 29) rfl 29 #[.agg #[.int .i64 m.now, .int .i64 m.last, .int .i64 m.begun, .slice m.aa m.A.length m.ac, .slice m.ha m.H.length m.hc], .int .i64 t] (by go_simp) (HFIND.out U (Fr.refl _ _)) ?_
      rintro e V2 ⟨rfl, f2⟩
      refine ⟨_, rfl, fun _ => f2, ?_⟩
      simp only [Act.put, List.setIfInBounds_toArray, List.set_cons_zero, List.set_cons_succ]
      clear hS
      have hS : (fun V : World => Fr U V (fun _ => False)) V2 := f2
      refine wpAnyK_takeTo 5 (some 30) (.pointer (some ⟨ga, i * 3, none⟩)) [6, 8] rfl rfl (by kernel_rfl) (by kernel_rfl) (by kernel_rfl) (by kernel_rfl) (fun _ _ _ h => h) hS (Or.inl ⟨rfl, fun w9 hw1 => by have hw1 : Fr U w9 (fun _ => False) := hw1; have s0 := hw1.cell (fun h => h) e0; have s1 := hw1.cell (fun h => h) e1; have s2 := hw1.cell (fun h => h) e2; go_simp⟩) ?_
      simp only [Act.put, List.setIfInBounds_toArray, List.set_cons_zero, List.set_cons_succ]
      refine wpAnyK_takeTo 6 (some 31) (.agg #[.int .i64 x.id, .int .i64 x.st, .slice x.ka x.kn x.kc]) [8] rfl rfl (by kernel_rfl) (by kernel_rfl) (by kernel_rfl) (by kernel_rfl) (fun _ _ _ h => h) hS (Or.inl ⟨rfl, fun w9 hw1 => by have hw1 : Fr U w9 (fun _ => False) := hw1; have s0 := hw1.cell (fun h => h) e0; have s1 := hw1.cell (fun h => h) e1; have s2 := hw1.cell (fun h => h) e2; go_simp⟩) ?_
      simp only [Act.put, List.setIfInBounds_toArray, List.set_cons_zero, List.set_cons_succ]
      refine wpAnyK_one (i := 7) (by kernel_rfl) rfl rfl ?_
      go_simp
      have fz := Fr.alloc V2 (.cells #[.int .i64 0, .int .i64 0, .slice none 0 0] 49) (fun _ => False)
      have hbx : BoxX (V2.alloc (.cells #[.int .i64 0, .int .i64 0, .slice none 0 0] 49)) V2.heap.size zeroX := heap_alloc_new V2 _
      refine ⟨f2.two fz, ?_⟩
      have hgx : U.heap.size ≤ V2.heap.size := f2.size
      obtain ⟨gx, hgx0⟩ : ∃ gx, gx = V2.heap.size := ⟨_, rfl⟩
      rw [← hgx0] at hbx hgx ⊢
      have hgl : gx < (V2.alloc (.cells #[.int .i64 0, .int .i64 0, .slice none 0 0] 49)).heap.size := (Array.getElem?_eq_some_iff.1 hbx).1
      have fz2 : Fr U (V2.alloc (.cells #[.int .i64 0, .int .i64 0, .slice none 0 0] 49)) (fun _ => False) := f2.two fz
      clear hgx0 fz f2 hS
      generalize V2.alloc (.cells #[.int .i64 0, .int .i64 0, .slice none 0 0] 49) = Z0 at *
      obtain ⟨p0, p1, p2⟩ := hbx.cells
      have q0 := hbx.frozen 0
      have q1 := hbx.frozen 1
      have q2 := hbx.frozen 2
      obtain ⟨Z, hZ⟩ : ∃ Z, Z = ((Z0.setCell ⟨gx, 0, none⟩ (.int .i64 x.id)).setCell ⟨gx, 1, none⟩ (.int .i64 x.st)).setCell ⟨gx, 2, none⟩ (.slice x.ka x.kn x.kc) := ⟨_, rfl⟩
      have FZ : Fr Z0 Z (fun k => k = gx) := by rw [hZ]; exact Fr.set3x _ _ _ _ _
      have HUZ : Hid (Fr U Z (fun _ => False)) := hide ((fz2.trans FZ).mono (fun k hk h => by rcases h with h | h; exact h; (have h : k = gx := h; omega)))
      have hgU : w.heap.size + 1 < U.heap.size := by omega
      have HM : Hid (Mid w Z m x gx) := hide ⟨HBU.out.fr HUZ.out (fun h => h), HZU.out.fr HUZ.out (fun h => h), by rw [hZ]; exact hbx.put x, HFU.out.two HUZ.out, by omega, by have := FZ.size; omega⟩
      have HZE := hide hZ
      refine wpAnyK_one (i := 8) (by kernel_rfl) rfl rfl ?_
      go_simp
      rw [← HZE.out]
      refine ⟨HUZ.out, ?_⟩
      refine wpAnyK_done (by kernel_rfl) ?_ _
      clear hZ FZ p0 p1 p2 q0 q1 q2 hbx e0 e1 e2 b0 b1 b2 b3 b4 b3' fz2 HZE
      have hQ' : ∀ k, Z.heap.size ≤ k → (fun k => Q k ∧ (k < w.heap.size ∨ Z.heap.size ≤ k)) k := fun k hk => ⟨HQ.out k (by have := HM.out.f.size; omega), .inr hk⟩
      have hDZ : DM (fun k => Q k ∧ (k < w.heap.size ∨ Z.heap.size ≤ k)) Z m := (HD.out.imp (fun k hk hq => ⟨hq, .inl hk⟩)).frF HM.out.f
      have HWO := hide (without_ref hDZ hQ' hnb t i x HFST.out.1 HFST.out.2.1 HFST.out.2.2)
      obtain ⟨LL, hLL⟩ : ∃ LL, LL = m.A.take i ++ m.A.drop (i + 1) := ⟨_, rfl⟩
      rw [← hLL] at HWO
      unfold Dm.agg at HWO
      have HLL := hide hLL
      obtain ⟨⟨b0, b1, b2, b3, b4⟩, _⟩ := HM.out.bm.all
      have HDX := hide (hDZ.1.2.2 x (List.mem_of_getElem? HFST.out.1))
      clear hQ' hDZ hLL
      dsimp only at HWO
      generalize hnA : m.A.length = nA at *
      clear hnA
      go_wp2_with fail
      refine HWO.out.mono ?_
      rintro e V3 ⟨a3, c3, rfl, hD3, f3⟩
      have hbz3 := HM.out.bz.fr f3 (fun h => h)
      have hbx3 := HM.out.bx.fr f3 (fun h => h)
      obtain ⟨⟨c0, c1, c2, c3', c4⟩, j0, j1, j2, j3, j4⟩ := (HM.out.bm.fr f3 (fun h => h)).all
      obtain ⟨W3, hW3⟩ : ∃ W3, W3 = ((((V3.setCell ⟨w.heap.size, 0, none⟩ (.int .i64 m.now)).setCell ⟨w.heap.size, 1, none⟩ (.int .i64 m.last)).setCell ⟨w.heap.size, 2, none⟩ (.int .i64 m.begun)).setCell ⟨w.heap.size, 3, none⟩ (.slice a3 LL.length c3)).setCell ⟨w.heap.size, 4, none⟩ (.slice m.ha m.H.length m.hc) := ⟨_, rfl⟩
      have F3 : Fr V3 W3 (fun k => k = w.heap.size) := by rw [hW3]; exact Fr.set5 _ _ 0 1 2 3 4 _ _ _ _ _
      have hb3 : BoxM W3 w.heap.size { m with aa := a3, ac := c3, A := LL } := by rw [hW3]; exact (HM.out.bm.fr f3 (fun h => h)).put { m with aa := a3, ac := c3, A := LL }
      have hnq : ∀ k, (Q k ∧ (k < w.heap.size ∨ Z.heap.size ≤ k)) → ¬ (k = w.heap.size ∨ k = w.heap.size + 1 ∨ k = gx) := fun k hk h => by
        have h1 := HM.out.g
        have h2 := HM.out.gl
        rcases hk.2 with q | q <;> rcases h with h | h | h <;> omega
      have hD3' := hD3.fr F3 (fun k hk h => hnq k hk (.inl h))
      have hz3 := hbz3.fr F3 (fun h => by have h : w.heap.size + 1 = w.heap.size := h; omega)
      have hx3 := hbx3.fr F3 (fun h => by have h : gx = w.heap.size := h; have := HM.out.g; omega)
      have hf3 : Fr w W3 (fun _ => False) := ((HM.out.f.two f3).trans F3).mono (fun k hk h => by rcases h with h | h; exact h; (have h : k = w.heap.size := h; omega))
      have HW3 := hide hW3
      obtain ⟨⟨k0, k1, k2, k3, k4⟩, l0, l1, l2, l3, l4⟩ := hb3.all
      obtain ⟨⟨g0, g1, g2, g3, g4⟩, i0, i1, i2, i3, i4⟩ := hz3.all
      obtain ⟨x0, x1, x2⟩ := hx3.cells
      dsimp only at k0 k1 k2 k3 k4
      clear hW3 hD3 hbz3 hbx3 b0 b1 b2 b3 b4
      have HO := out_box (m := { m with aa := a3, ac := c3, A := LL }) hz3 (by omega) hf3
      have HDM : Hid (∀ w', Fr W3 w' (fun k => k = w.heap.size + 1) → DM Q w' { m with aa := a3, ac := c3, A := LL }) := hide (fun w' q => (hD3'.fr q (fun k hk h => hnq k hk (.inr (.inl h)))).imp (fun k _ hk => hk.1))
      have HST := hide (Fr.set5 W3 (w.heap.size + 1) 0 1 2 3 4 (.int .i64 m.now) (.int .i64 m.last) (.int .i64 m.begun) (.slice a3 LL.length c3) (.slice m.ha m.H.length m.hc))
      dsimp only at HO
      clear hb3 hz3 hx3 hf3 hD3' hnq F3 f3 HWO
      go_wp2_with (rw [← HW3.out]; clear HW3)
      exact bodyPost_ret (results_m3 Try.results26 _ _ (w.heap.size + 1) HO.out.1 rfl) rfl ⟨_, _, HCK.out, HO.out.2, .inr (.inl ⟨i, x, a3, c3, HFST.out, .inr rfl, by rw [show erased m i = LL from HLL.out.symm]; rfl, by rw [show erased m i = LL from HLL.out.symm]; exact HDM.out _ HST.out⟩)⟩
    · go_simp
      have fz := Fr.alloc U (.cells #[.int .i64 0, .int .i64 0, .slice none 0 0] 49) (fun _ => False)
      have hbx0 : BoxX (U.alloc (.cells #[.int .i64 0, .int .i64 0, .slice none 0 0] 49)) U.heap.size zeroX := heap_alloc_new U _
      refine ⟨fz, ?_⟩
      have hgx : U.heap.size ≤ U.heap.size := Nat.le_refl _
      obtain ⟨gx, hgx0⟩ : ∃ gx, gx = U.heap.size := ⟨_, rfl⟩
      have hgx2 : U.heap.size ≤ gx := by omega
      rw [← hgx0] at hbx0 ⊢
      clear hS hgx hgx0
      generalize U.alloc (.cells #[.int .i64 0, .int .i64 0, .slice none 0 0] 49) = U1 at *
      refine wpAnyK_one (i := 4) (by kernel_rfl) rfl rfl ?_
      refine wp_call_to (some 29) rfl 29 #[.agg #[.int .i64 m.now, .int .i64 m.last, .int .i64 m.begun, .slice m.aa m.A.length m.ac, .slice m.ha m.H.length m.hc], .int .i64 t] (by go_simp) (HFIND.out U1 fz) ?_
      rintro e Z0 ⟨rfl, f2⟩
      have fz2 := fz.two f2
      refine ⟨_, rfl, fun _ => fz2, ?_⟩
      simp only [Act.put, List.setIfInBounds_toArray, List.set_cons_zero, List.set_cons_succ]
      have hS : (fun V : World => Fr U V (fun _ => False)) Z0 := fz2
      refine wpAnyK_takeTo 5 (some 30) (.pointer (some ⟨ga, i * 3, none⟩)) [6, 8] rfl rfl (by kernel_rfl) (by kernel_rfl) (by kernel_rfl) (by kernel_rfl) (fun _ _ _ h => h) hS (Or.inl ⟨rfl, fun w9 hw1 => by have hw1 : Fr U w9 (fun _ => False) := hw1; have s0 := hw1.cell (fun h => h) e0; have s1 := hw1.cell (fun h => h) e1; have s2 := hw1.cell (fun h => h) e2; go_simp⟩) ?_
      simp only [Act.put, List.setIfInBounds_toArray, List.set_cons_zero, List.set_cons_succ]
      refine wpAnyK_takeTo 6 (some 31) (.agg #[.int .i64 x.id, .int .i64 x.st, .slice x.ka x.kn x.kc]) [8] rfl rfl (by kernel_rfl) (by kernel_rfl) (by kernel_rfl) (by kernel_rfl) (fun _ _ _ h => h) hS (Or.inl ⟨rfl, fun w9 hw1 => by have hw1 : Fr U w9 (fun _ => False) := hw1; have s0 := hw1.cell (fun h => h) e0; have s1 := hw1.cell (fun h => h) e1; have s2 := hw1.cell (fun h => h) e2; go_simp⟩) ?_
      simp only [Act.put, List.setIfInBounds_toArray, List.set_cons_zero, List.set_cons_succ]
      have hbx := hbx0.fr f2 (fun h => h)
      have hgx : U.heap.size ≤ gx := hgx2
      have hgl : gx < Z0.heap.size := (Array.getElem?_eq_some_iff.1 hbx).1
      clear hbx0 fz f2 hS hgx2
      obtain ⟨p0, p1, p2⟩ := hbx.cells
      have q0 := hbx.frozen 0
      have q1 := hbx.frozen 1
      have q2 := hbx.frozen 2
      obtain ⟨Z, hZ⟩ : ∃ Z, Z = ((Z0.setCell ⟨gx, 0, none⟩ (.int .i64 x.id)).setCell ⟨gx, 1, none⟩ (.int .i64 x.st)).setCell ⟨gx, 2, none⟩ (.slice x.ka x.kn x.kc) := ⟨_, rfl⟩
      have FZ : Fr Z0 Z (fun k => k = gx) := by rw [hZ]; exact Fr.set3x _ _ _ _ _
      have HUZ : Hid (Fr U Z (fun _ => False)) := hide ((fz2.trans FZ).mono (fun k hk h => by rcases h with h | h; exact h; (have h : k = gx := h; omega)))
      have hgU : w.heap.size + 1 < U.heap.size := by omega
      have HM : Hid (Mid w Z m x gx) := hide ⟨HBU.out.fr HUZ.out (fun h => h), HZU.out.fr HUZ.out (fun h => h), by rw [hZ]; exact hbx.put x, HFU.out.two HUZ.out, by omega, by have := FZ.size; omega⟩
      have HZE := hide hZ
      refine wpAnyK_one (i := 8) (by kernel_rfl) rfl rfl ?_
      go_simp
      rw [← HZE.out]
      refine ⟨HUZ.out, ?_⟩
      refine wpAnyK_done (by kernel_rfl) ?_ _
      clear hZ FZ p0 p1 p2 q0 q1 q2 hbx e0 e1 e2 b0 b1 b2 b3 b4 b3' fz2 HZE
      have hQ' : ∀ k, Z.heap.size ≤ k → (fun k => Q k ∧ (k < w.heap.size ∨ Z.heap.size ≤ k)) k := fun k hk => ⟨HQ.out k (by have := HM.out.f.size; omega), .inr hk⟩
      have hDZ : DM (fun k => Q k ∧ (k < w.heap.size ∨ Z.heap.size ≤ k)) Z m := (HD.out.imp (fun k hk hq => ⟨hq, .inl hk⟩)).frF HM.out.f
      have HWO := hide (without_ref hDZ hQ' hnb t i x HFST.out.1 HFST.out.2.1 HFST.out.2.2)
      obtain ⟨LL, hLL⟩ : ∃ LL, LL = m.A.take i ++ m.A.drop (i + 1) := ⟨_, rfl⟩
      rw [← hLL] at HWO
      unfold Dm.agg at HWO
      have HLL := hide hLL
      obtain ⟨⟨b0, b1, b2, b3, b4⟩, _⟩ := HM.out.bm.all
      have HDX := hide (hDZ.1.2.2 x (List.mem_of_getElem? HFST.out.1))
      clear hQ' hDZ hLL
      dsimp only at HWO
      generalize hnA : m.A.length = nA at *
      clear hnA
      go_wp2_with fail
      refine HWO.out.mono ?_
      rintro e V3 ⟨a3, c3, rfl, hD3, f3⟩
      have hbz3 := HM.out.bz.fr f3 (fun h => h)
      have hbx3 := HM.out.bx.fr f3 (fun h => h)
      obtain ⟨⟨c0, c1, c2, c3', c4⟩, j0, j1, j2, j3, j4⟩ := (HM.out.bm.fr f3 (fun h => h)).all
      obtain ⟨W3, hW3⟩ : ∃ W3, W3 = ((((V3.setCell ⟨w.heap.size, 0, none⟩ (.int .i64 m.now)).setCell ⟨w.heap.size, 1, none⟩ (.int .i64 m.last)).setCell ⟨w.heap.size, 2, none⟩ (.int .i64 m.begun)).setCell ⟨w.heap.size, 3, none⟩ (.slice a3 LL.length c3)).setCell ⟨w.heap.size, 4, none⟩ (.slice m.ha m.H.length m.hc) := ⟨_, rfl⟩
      have F3 : Fr V3 W3 (fun k => k = w.heap.size) := by rw [hW3]; exact Fr.set5 _ _ 0 1 2 3 4 _ _ _ _ _
      have hb3 : BoxM W3 w.heap.size { m with aa := a3, ac := c3, A := LL } := by rw [hW3]; exact (HM.out.bm.fr f3 (fun h => h)).put { m with aa := a3, ac := c3, A := LL }
      have hnq : ∀ k, (Q k ∧ (k < w.heap.size ∨ Z.heap.size ≤ k)) → ¬ (k = w.heap.size ∨ k = w.heap.size + 1 ∨ k = gx) := fun k hk h => by
        have h1 := HM.out.g
        have h2 := HM.out.gl
        rcases hk.2 with q | q <;> rcases h with h | h | h <;> omega
      have hD3' := hD3.fr F3 (fun k hk h => hnq k hk (.inl h))
      have hz3 := hbz3.fr F3 (fun h => by have h : w.heap.size + 1 = w.heap.size := h; omega)
      have hx3 := hbx3.fr F3 (fun h => by have h : gx = w.heap.size := h; have := HM.out.g; omega)
      have hf3 : Fr w W3 (fun _ => False) := ((HM.out.f.two f3).trans F3).mono (fun k hk h => by rcases h with h | h; exact h; (have h : k = w.heap.size := h; omega))
      have HW3 := hide hW3
      obtain ⟨⟨k0, k1, k2, k3, k4⟩, l0, l1, l2, l3, l4⟩ := hb3.all
      obtain ⟨⟨g0, g1, g2, g3, g4⟩, i0, i1, i2, i3, i4⟩ := hz3.all
      obtain ⟨x0, x1, x2⟩ := hx3.cells
      dsimp only at k0 k1 k2 k3 k4
      clear hW3 hD3 hbz3 hbx3 b0 b1 b2 b3 b4
      have HO := out_box (m := { m with aa := a3, ac := c3, A := LL }) hz3 (by omega) hf3
      have HDM : Hid (∀ w', Fr W3 w' (fun k => k = w.heap.size + 1) → DM Q w' { m with aa := a3, ac := c3, A := LL }) := hide (fun w' q => (hD3'.fr q (fun k hk h => hnq k hk (.inr (.inl h)))).imp (fun k _ hk => hk.1))
      have HST := hide (Fr.set5 W3 (w.heap.size + 1) 0 1 2 3 4 (.int .i64 m.now) (.int .i64 m.last) (.int .i64 m.begun) (.slice a3 LL.length c3) (.slice m.ha m.H.length m.hc))
      dsimp only at HO
      clear hb3 hz3 hx3 hf3 hD3' hnq F3 f3 HWO
      go_wp2_with (rw [← HW3.out]; clear HW3)
      exact bodyPost_ret (results_m3 Try.results26 _ _ (w.heap.size + 1) HO.out.1 rfl) rfl ⟨_, _, HCK.out, HO.out.2, .inr (.inl ⟨i, x, a3, c3, HFST.out, .inr rfl, by rw [show erased m i = LL from HLL.out.symm]; rfl, by rw [show erased m i = LL from HLL.out.symm]; exact HDM.out _ HST.out⟩)⟩
  · -- nothing is changed
    obtain ⟨⟨b0, b1, b2, b3, b4⟩, _⟩ := hbV.all
    obtain ⟨⟨g0, g1, g2, g3, g4⟩, i0, i1, i2, i3, i4⟩ := hzV.all
    have HO := out_box (m := m) hzV (by omega) hfV
    clear hbV hzV hfV fV a0 a1 a2 a3 a4 HCH
    go_wp2
    exact bodyPost_ret (results_m3 Try.results26 _ _ (w.heap.size + 1) HO.out.1 rfl) rfl ⟨_, _, HCK.out, HO.out.2, .inl ⟨by omega, by omega, rfl, HD.out.frF HO.out.2⟩⟩
  · have HFST := hide hfst
    clear hfst
    have HK0 := hide hk0
    have HKP : Hid (0 < x.kn) := hide (by rw [← (HD.out.1.2.2 x (List.mem_of_getElem? HFST.out.1)).1]; exact List.length_pos_iff.2 hk0)
    clear hk0 hnh hst
    have D := Fr.drew V (fun _ => False)
    have hDU := HD.out.frF (hfV.two D)
    have hil : i < m.A.length := (List.getElem?_eq_some_iff.1 HFST.out.1).1
    obtain ⟨ga, hga, e0, e1, e2⟩ := RowW.at hDU.1 HFST.out.1
    have HBU := hide (hbV.fr D (fun h => h))
    have HZU := hide (hzV.fr D (fun h => h))
    have HFU := hide (hfV.two D)
    have HDU := hide hDU
    obtain ⟨⟨b0, b1, b2, b3, b4⟩, _⟩ := HBU.out.all
    have b3' := b3
    rw [hga] at b3'
    have HGA := hide hga
    have hsU : V.heap.size ≤ V.drew.heap.size := D.size
    clear hbV hzV hfV fV D hDU a0 a1 a2 a3 a4 HCH hga
    go_wp2_with fail
    refine wp_region_K (fun _ => true) (fun U : World => Fr V.drew U (fun _ => False)) (by kernel_rfl) ?_
    generalize V.drew = U at *
    have hS : (fun V : World => Fr U V (fun _ => False)) U := Fr.refl _ _
    refine wpAnyK_takeTo 0 (some 25) (.pointer (some ⟨w.heap.size, 3, none⟩)) [1, 5, 6, 8] rfl rfl (by kernel_rfl) (by kernel_rfl) (by kernel_rfl) (by kernel_rfl) (fun _ _ _ h => h) hS (Or.inl ⟨rfl, fun w9 hw1 => by have hw1 : Fr U w9 (fun _ => False) := hw1; have s0 := hw1.cell (fun h => h) b0; have s1 := hw1.cell (fun h => h) b1; have s2 := hw1.cell (fun h => h) b2; have s3 := hw1.cell (fun h => h) b3'; have s4 := hw1.cell (fun h => h) b4; go_simp⟩) ?_
    simp only [Act.put, List.setIfInBounds_toArray, List.set_cons_zero, List.set_cons_succ]
    refine wpAnyK_takeTo 1 (some 26) (.slice (some ⟨ga, 0, none⟩) m.A.length m.ac) [5, 6, 8] rfl rfl (by kernel_rfl) (by kernel_rfl) (by kernel_rfl) (by kernel_rfl) (fun _ _ _ h => h) hS (Or.inl ⟨rfl, fun w9 hw1 => by have hw1 : Fr U w9 (fun _ => False) := hw1; have s0 := hw1.cell (fun h => h) b0; have s1 := hw1.cell (fun h => h) b1; have s2 := hw1.cell (fun h => h) b2; have s3 := hw1.cell (fun h => h) b3'; have s4 := hw1.cell (fun h => h) b4; go_simp⟩) ?_
    simp only [Act.put, List.setIfInBounds_toArray, List.set_cons_zero, List.set_cons_succ]
    refine wpAnyK_takeTo 2 (some 27) (.agg #[.int .i64 m.now, .int .i64 m.last, .int .i64 m.begun, .slice m.aa m.A.length m.ac, .slice m.ha m.H.length m.hc]) [4, 5, 6, 8] rfl rfl (by kernel_rfl) (by kernel_rfl) (by kernel_rfl) (by kernel_rfl) (fun _ _ _ h => h) hS (Or.inl ⟨rfl, fun w9 hw1 => by have hw1 : Fr U w9 (fun _ => False) := hw1; have s0 := hw1.cell (fun h => h) b0; have s1 := hw1.cell (fun h => h) b1; have s2 := hw1.cell (fun h => h) b2; have s3 := hw1.cell (fun h => h) b3; have s4 := hw1.cell (fun h => h) b4; go_simp⟩) ?_
    simp only [Act.put, List.setIfInBounds_toArray, List.set_cons_zero, List.set_cons_succ]
    refine wpAnyK_takeTo 3 (some 28) (.int .i64 t) [4, 5, 6, 8] rfl rfl (by kernel_rfl) (by kernel_rfl) (by kernel_rfl) (by kernel_rfl) (fun _ _ _ h => h) hS (Or.inl ⟨rfl, fun w9 hw1 => by have hw1 : Fr U w9 (fun _ => False) := hw1; have s0 := hw1.cell (fun h => h) b0; have s1 := hw1.cell (fun h => h) b1; have s2 := hw1.cell (fun h => h) b2; have s3 := hw1.cell (fun h => h) b3; have s4 := hw1.cell (fun h => h) b4; go_simp⟩) ?_
    simp only [Act.put, List.setIfInBounds_toArray, List.set_cons_zero, List.set_cons_succ]
    have hFIND : ∀ W : World, Fr U W (fun _ => False) → Calls Try.prog 29 #[.agg #[.int .i64 m.now, .int .i64 m.last, .int .i64 m.begun, .slice m.aa m.A.length m.ac, .slice m.ha m.H.length m.hc], .int .i64 t] W fun e w' => e = .returned (.int .i64 (i : Int)) ∧ Fr W w' (fun _ => False) := fun W hW => by
      refine (find_ref (HDU.out.frF hW) t hnb).mono ?_
      rintro e w' ⟨q1, ⟨i', x', q2, q3, q4, rfl⟩ | ⟨q2, _⟩⟩
      · obtain ⟨rfl, _⟩ := First.unique HFST.out (⟨q2, q3, q4⟩ : First m t i' x')
        exact ⟨rfl, q1⟩
      · exact absurd HFST.out.2.1 (q2 x (List.mem_of_getElem? HFST.out.1))
    have HFIND := hide hFIND
    clear hFIND
    refine wpAnyK_two (i := 4) (j := 7) (by kernel_rfl) rfl rfl rfl rfl ?_ ?_
    · refine wp_call_to (some 29) rfl 29 #[.agg #[.int .i64 m.now, .int .i64 m.last, .int .i64 m.begun, .slice m.aa m.A.length m.ac, .slice m.ha m.H.length m.hc], .int .i64 t] (by go_simp) (HFIND.out U (Fr.refl _ _)) ?_
      rintro e V2 ⟨rfl, f2⟩
      refine ⟨_, rfl, fun _ => f2, ?_⟩
      simp only [Act.put, List.setIfInBounds_toArray, List.set_cons_zero, List.set_cons_succ]
      clear hS
      have hS : (fun V : World => Fr U V (fun _ => False)) V2 := f2
      refine wpAnyK_takeTo 5 (some 30) (.pointer (some ⟨ga, i * 3, none⟩)) [6, 8] rfl rfl (by kernel_rfl) (by kernel_rfl) (by kernel_rfl) (by kernel_rfl) (fun _ _ _ h => h) hS (Or.inl ⟨rfl, fun w9 hw1 => by have hw1 : Fr U w9 (fun _ => False) := hw1; have s0 := hw1.cell (fun h => h) e0; have s1 := hw1.cell (fun h => h) e1; have s2 := hw1.cell (fun h => h) e2; go_simp⟩) ?_
      simp only [Act.put, List.setIfInBounds_toArray, List.set_cons_zero, List.set_cons_succ]
      refine wpAnyK_takeTo 6 (some 31) (.agg #[.int .i64 x.id, .int .i64 x.st, .slice x.ka x.kn x.kc]) [8] rfl rfl (by kernel_rfl) (by kernel_rfl) (by kernel_rfl) (by kernel_rfl) (fun _ _ _ h => h) hS (Or.inl ⟨rfl, fun w9 hw1 => by have hw1 : Fr U w9 (fun _ => False) := hw1; have s0 := hw1.cell (fun h => h) e0; have s1 := hw1.cell (fun h => h) e1; have s2 := hw1.cell (fun h => h) e2; go_simp⟩) ?_
      simp only [Act.put, List.setIfInBounds_toArray, List.set_cons_zero, List.set_cons_succ]
      refine wpAnyK_one (i := 7) (by kernel_rfl) rfl rfl ?_
      go_simp
      have fz := Fr.alloc V2 (.cells #[.int .i64 0, .int .i64 0, .slice none 0 0] 49) (fun _ => False)
      have hbx : BoxX (V2.alloc (.cells #[.int .i64 0, .int .i64 0, .slice none 0 0] 49)) V2.heap.size zeroX := heap_alloc_new V2 _
      refine ⟨f2.two fz, ?_⟩
      have hgx : U.heap.size ≤ V2.heap.size := f2.size
      obtain ⟨gx, hgx0⟩ : ∃ gx, gx = V2.heap.size := ⟨_, rfl⟩
      rw [← hgx0] at hbx hgx ⊢
      have hgl : gx < (V2.alloc (.cells #[.int .i64 0, .int .i64 0, .slice none 0 0] 49)).heap.size := (Array.getElem?_eq_some_iff.1 hbx).1
      have fz2 : Fr U (V2.alloc (.cells #[.int .i64 0, .int .i64 0, .slice none 0 0] 49)) (fun _ => False) := f2.two fz
      clear hgx0 fz f2 hS
      generalize V2.alloc (.cells #[.int .i64 0, .int .i64 0, .slice none 0 0] 49) = Z0 at *
      obtain ⟨p0, p1, p2⟩ := hbx.cells
      have q0 := hbx.frozen 0
      have q1 := hbx.frozen 1
      have q2 := hbx.frozen 2
      obtain ⟨Z, hZ⟩ : ∃ Z, Z = ((Z0.setCell ⟨gx, 0, none⟩ (.int .i64 x.id)).setCell ⟨gx, 1, none⟩ (.int .i64 x.st)).setCell ⟨gx, 2, none⟩ (.slice x.ka x.kn x.kc) := ⟨_, rfl⟩
      have FZ : Fr Z0 Z (fun k => k = gx) := by rw [hZ]; exact Fr.set3x _ _ _ _ _
      have HUZ : Hid (Fr U Z (fun _ => False)) := hide ((fz2.trans FZ).mono (fun k hk h => by rcases h with h | h; exact h; (have h : k = gx := h; omega)))
      have hgU : w.heap.size + 1 < U.heap.size := by omega
      have HM : Hid (Mid w Z m x gx) := hide ⟨HBU.out.fr HUZ.out (fun h => h), HZU.out.fr HUZ.out (fun h => h), by rw [hZ]; exact hbx.put x, HFU.out.two HUZ.out, by omega, by have := FZ.size; omega⟩
      have HZE := hide hZ
      refine wpAnyK_one (i := 8) (by kernel_rfl) rfl rfl ?_
      go_simp
      rw [← HZE.out]
      refine ⟨HUZ.out, ?_⟩
      refine wpAnyK_done (by kernel_rfl) ?_ _
      clear hZ FZ p0 p1 p2 q0 q1 q2 hbx e0 e1 e2 b0 b1 b2 b3 b4 b3' fz2 HZE
      have hQ' : ∀ k, Z.heap.size ≤ k → (fun k => Q k ∧ (k < w.heap.size ∨ Z.heap.size ≤ k)) k := fun k hk => ⟨HQ.out k (by have := HM.out.f.size; omega), .inr hk⟩
      have hDZ : DM (fun k => Q k ∧ (k < w.heap.size ∨ Z.heap.size ≤ k)) Z m := (HD.out.imp (fun k hk hq => ⟨hq, .inl hk⟩)).frF HM.out.f
      have HWO := hide (without_ref hDZ hQ' hnb t i x HFST.out.1 HFST.out.2.1 HFST.out.2.2)
      obtain ⟨LL, hLL⟩ : ∃ LL, LL = m.A.take i ++ m.A.drop (i + 1) := ⟨_, rfl⟩
      rw [← hLL] at HWO
      unfold Dm.agg at HWO
      have HLL := hide hLL
      obtain ⟨⟨b0, b1, b2, b3, b4⟩, _⟩ := HM.out.bm.all
      have HDX := hide (hDZ.1.2.2 x (List.mem_of_getElem? HFST.out.1))
      clear hQ' hDZ hLL
      dsimp only at HWO
      generalize hnA : m.A.length = nA at *
      clear hnA
      go_wp2_with fail
      refine HWO.out.mono ?_
      rintro e V3 ⟨a3, c3, rfl, hD3, f3⟩
      have hbz3 := HM.out.bz.fr f3 (fun h => h)
      have hbx3 := HM.out.bx.fr f3 (fun h => h)
      obtain ⟨⟨c0, c1, c2, c3', c4⟩, j0, j1, j2, j3, j4⟩ := (HM.out.bm.fr f3 (fun h => h)).all
      obtain ⟨W3, hW3⟩ : ∃ W3, W3 = ((((V3.setCell ⟨w.heap.size, 0, none⟩ (.int .i64 m.now)).setCell ⟨w.heap.size, 1, none⟩ (.int .i64 m.last)).setCell ⟨w.heap.size, 2, none⟩ (.int .i64 m.begun)).setCell ⟨w.heap.size, 3, none⟩ (.slice a3 LL.length c3)).setCell ⟨w.heap.size, 4, none⟩ (.slice m.ha m.H.length m.hc) := ⟨_, rfl⟩
      have F3 : Fr V3 W3 (fun k => k = w.heap.size) := by rw [hW3]; exact Fr.set5 _ _ 0 1 2 3 4 _ _ _ _ _
      have hb3 : BoxM W3 w.heap.size { m with aa := a3, ac := c3, A := LL } := by rw [hW3]; exact (HM.out.bm.fr f3 (fun h => h)).put { m with aa := a3, ac := c3, A := LL }
      have hnq : ∀ k, (Q k ∧ (k < w.heap.size ∨ Z.heap.size ≤ k)) → ¬ (k = w.heap.size ∨ k = w.heap.size + 1 ∨ k = gx) := fun k hk h => by
        have h1 := HM.out.g
        have h2 := HM.out.gl
        rcases hk.2 with q | q <;> rcases h with h | h | h <;> omega
      have hD3' := hD3.fr F3 (fun k hk h => hnq k hk (.inl h))
      have hz3 := hbz3.fr F3 (fun h => by have h : w.heap.size + 1 = w.heap.size := h; omega)
      have hx3 := hbx3.fr F3 (fun h => by have h : gx = w.heap.size := h; have := HM.out.g; omega)
      have hf3 : Fr w W3 (fun _ => False) := ((HM.out.f.two f3).trans F3).mono (fun k hk h => by rcases h with h | h; exact h; (have h : k = w.heap.size := h; omega))
      have HW3 := hide hW3
      obtain ⟨⟨k0, k1, k2, k3, k4⟩, l0, l1, l2, l3, l4⟩ := hb3.all
      obtain ⟨⟨g0, g1, g2, g3, g4⟩, i0, i1, i2, i3, i4⟩ := hz3.all
      obtain ⟨x0, x1, x2⟩ := hx3.cells
      dsimp only at k0 k1 k2 k3 k4
      clear hW3 hD3 hbz3 hbx3 b0 b1 b2 b3 b4
      obtain ⟨W4, hW4⟩ : ∃ W4, W4 = W3.setCell ⟨w.heap.size, 1, none⟩ (.int .i64 (stampD m)) := ⟨_, rfl⟩
      have F4 : Fr W3 W4 (fun k => k = w.heap.size) := by rw [hW4]; exact Fr.setCell _ _ _
      have hb4 : BoxM W4 w.heap.size { m with last := stampD m, aa := a3, ac := c3, A := LL } := by rw [hW4]; exact hb3.last' _
      have hz4 := hz3.fr F4 (fun h => by have h : w.heap.size + 1 = w.heap.size := h; omega)
      have hx4 := hx3.fr F4 (fun h => by have h : gx = w.heap.size := h; have := HM.out.g; omega)
      have hf4 : Fr w W4 (fun _ => False) := by rw [hW4]; exact hf3.box (Nat.le_refl _)
      have hD4 := hD3'.fr F4 (fun k hk h => hnq k hk (.inl h))
      have HW4 := hide hW4
      have hs4 : gx < W4.heap.size := (Array.getElem?_eq_some_iff.1 hx4).1
      have FE := Fr.alloc W4 (.cells #[] 89) (fun _ => False)
      obtain ⟨⟨r0, r1, r2, r3, r4⟩, _⟩ := (hb4.fr FE (fun h => h)).all
      obtain ⟨v5, W5, hr5, hG5⟩ := (empty_row W4 89).row ty27 27 (ownsRow_fr hD4.2.1 FE (fun _ _ h => h)) (by simp; omega)
      rw [List.nil_append] at hG5
      obtain ⟨s0, s1, s2⟩ := (hx4.fr hG5.2.1 (fun h => h)).cells
      obtain ⟨v7, W7, hr7, hG7⟩ := hG5.push ty27 27 ⟨t, stampD m, x.ka, x.kn, x.kc, x.K⟩ (by dsimp only; omega)
      dsimp only at hr5 hr7 hG7
      obtain ⟨HL, hHL⟩ : ∃ HL, HL = m.H ++ [(⟨t, stampD m, x.ka, x.kn, x.kc, x.K⟩ : Rw)] := ⟨_, rfl⟩
      rw [← hHL] at hG7
      have HHL := hide hHL
      obtain ⟨a7, c7, rfl⟩ := hG7.shape
      have hb7 := hb4.fr hG7.2.1 (fun h => h)
      have hz7 := hz4.fr hG7.2.1 (fun h => h)
      obtain ⟨⟨d0, d1, d2, d3, d4⟩, n0, n1, n2, n3, n4⟩ := hb7.all
      obtain ⟨W8, hW8⟩ : ∃ W8, W8 = W7.setCell ⟨w.heap.size, 4, none⟩ (.slice a7 HL.length c7) := ⟨_, rfl⟩
      have F8 : Fr W7 W8 (fun k => k = w.heap.size) := by rw [hW8]; exact Fr.setCell _ _ _
      have hb8 : BoxM W8 w.heap.size { m with last := stampD m, aa := a3, ac := c3, A := LL, ha := a7, hc := c7, H := HL } := by rw [hW8]; exact hb7.his' _ _ _
      have hz8 := hz7.fr F8 (fun h => by have h : w.heap.size + 1 = w.heap.size := h; omega)
      have hf8 : Fr w W8 (fun _ => False) := by rw [hW8]; exact (hf4.two hG7.2.1).box (Nat.le_refl _)
      have hA8 := (hD4.1.fr hG7.2.1 (fun _ _ h => h)).fr F8 (fun k hk h => hnq k hk (.inl h))
      have HW8 := hide hW8
      obtain ⟨⟨f0, f1, f2, f3', f4⟩, _⟩ := hb8.all
      obtain ⟨⟨o0, o1, o2, o3, o4⟩, u0, u1, u2, u3, u4⟩ := hz8.all
      have HO := out_box (m := { m with last := stampD m, aa := a3, ac := c3, A := LL, ha := a7, hc := c7, H := HL }) hz8 (by omega) hf8
      have hgm : w.heap.size + 1 < W4.heap.size := hz4.lt
      have HDM : Hid (∀ w', Fr W8 w' (fun k => k = w.heap.size + 1) → Fr w w' (fun _ => False) → DM Q w' { m with last := stampD m, aa := a3, ac := c3, A := LL, ha := a7, hc := c7, H := HL }) := hide (fun w' q1 q2 => by
        refine ⟨(hA8.fr q1 (fun k hk h => hnq k hk (.inr (.inl h)))).imp (fun k _ hk => hk.1), ownsRow_fr (ownsRow_fr hG7.1 F8 (fun k hk h => by have := hG7.2.2 k hk; have h : k = w.heap.size := h; omega)) q1 (fun k hk h => by have := hG7.2.2 k hk; have h : k = w.heap.size + 1 := h; omega), fun k hk => HQ.out k (by have := hG7.2.2 k hk; omega), fun y hy => ?_⟩
        rw [HHL.out] at hy
        rcases List.mem_append.1 hy with hy | hy
        · exact (HD.out.2.2.2 y hy).fr q2 (fun _ _ h => h)
        · have : y = ⟨t, stampD m, x.ka, x.kn, x.kc, x.K⟩ := by simpa using hy
          subst this
          exact (HD.out.1.2.2 x (List.mem_of_getElem? HFST.out.1)).fr q2 (fun _ _ h => h))
      have HST := hide (Fr.set5 W8 (w.heap.size + 1) 0 1 2 3 4 (.int .i64 m.now) (.int .i64 (stampD m)) (.int .i64 m.begun) (.slice a3 LL.length c3) (.slice a7 HL.length c7))
      dsimp only at f0 f1 f2 f3' f4 d0 d1 d2 d3 d4 r0 r1 r2 r3 r4 HO
      clear hb3 hz3 hx3 hf3 hD3' hnq F3 f3 HWO F4 hb4 hz4 hx4 hf4 hD4 hW4 hs4 FE hG5 hG7 hHL hb7 hz7 F8 hb8 hz8 hf8 hA8 hW8 hgm
      have hkn : (x.kn : Int) > 0 := by have := HKP.out; omega
      have hknb : decide ((x.kn : Int) > 0) = true := by simp; have := HKP.out; omega
      have hknp : 0 < x.kn := HKP.out
      generalize stampD m = sd at *
      go_wp2_with (first | (rw [← HW3.out]; clear HW3) | (rw [← HW4.out]; clear HW4) | (rw [← HW8.out]; clear HW8) | (refine wpList_plain rfl fun _ hK => wp_append_to (.tmp 48) (.tmp 50) 27 rfl _ rfl _ rfl (.slice (some ⟨W4.heap.size, 0, none⟩) 0 0) (.slice m.ha m.H.length m.hc) rfl rfl _ _ hr5 (hK _ _ ?_); clear hK) | (refine wpList_plain rfl fun _ hK => wp_append_to (.tmp 52) (.tmp 58) 27 rfl _ rfl _ rfl v5 (.slice (some ⟨W5.heap.size, 0, none⟩) 1 1) rfl rfl _ _ hr7 (hK _ _ ?_); clear hK))
      exact bodyPost_ret (results_m3 Try.results26 _ _ (w.heap.size + 1) HO.out.1 rfl) rfl ⟨_, _, HCK.out, HO.out.2, .inr (.inr ⟨i, x, a3, c3, a7, c7, HFST.out, rfl, HK0.out, by rw [show erased m i = LL from HLL.out.symm, ← HHL.out]; rfl, by rw [show erased m i = LL from HLL.out.symm, ← HHL.out]; exact HDM.out _ HST.out HO.out.2⟩)⟩
    · go_simp
      have fz := Fr.alloc U (.cells #[.int .i64 0, .int .i64 0, .slice none 0 0] 49) (fun _ => False)
      have hbx0 : BoxX (U.alloc (.cells #[.int .i64 0, .int .i64 0, .slice none 0 0] 49)) U.heap.size zeroX := heap_alloc_new U _
      refine ⟨fz, ?_⟩
      have hgx : U.heap.size ≤ U.heap.size := Nat.le_refl _
      obtain ⟨gx, hgx0⟩ : ∃ gx, gx = U.heap.size := ⟨_, rfl⟩
      have hgx2 : U.heap.size ≤ gx := by omega
      rw [← hgx0] at hbx0 ⊢
      clear hS hgx hgx0
      generalize U.alloc (.cells #[.int .i64 0, .int .i64 0, .slice none 0 0] 49) = U1 at *
      refine wpAnyK_one (i := 4) (by kernel_rfl) rfl rfl ?_
      refine wp_call_to (some 29) rfl 29 #[.agg #[.int .i64 m.now, .int .i64 m.last, .int .i64 m.begun, .slice m.aa m.A.length m.ac, .slice m.ha m.H.length m.hc], .int .i64 t] (by go_simp) (HFIND.out U1 fz) ?_
      rintro e Z0 ⟨rfl, f2⟩
      have fz2 := fz.two f2
      refine ⟨_, rfl, fun _ => fz2, ?_⟩
      simp only [Act.put, List.setIfInBounds_toArray, List.set_cons_zero, List.set_cons_succ]
      have hS : (fun V : World => Fr U V (fun _ => False)) Z0 := fz2
      refine wpAnyK_takeTo 5 (some 30) (.pointer (some ⟨ga, i * 3, none⟩)) [6, 8] rfl rfl (by kernel_rfl) (by kernel_rfl) (by kernel_rfl) (by kernel_rfl) (fun _ _ _ h => h) hS (Or.inl ⟨rfl, fun w9 hw1 => by have hw1 : Fr U w9 (fun _ => False) := hw1; have s0 := hw1.cell (fun h => h) e0; have s1 := hw1.cell (fun h => h) e1; have s2 := hw1.cell (fun h => h) e2; go_simp⟩) ?_
      simp only [Act.put, List.setIfInBounds_toArray, List.set_cons_zero, List.set_cons_succ]
      refine wpAnyK_takeTo 6 (some 31) (.agg #[.int .i64 x.id, .int .i64 x.st, .slice x.ka x.kn x.kc]) [8] rfl rfl (by kernel_rfl) (by kernel_rfl) (by kernel_rfl) (by kernel_rfl) (fun _ _ _ h => h) hS (Or.inl ⟨rfl, fun w9 hw1 => by have hw1 : Fr U w9 (fun _ => False) := hw1; have s0 := hw1.cell (fun h => h) e0; have s1 := hw1.cell (fun h => h) e1; have s2 := hw1.cell (fun h => h) e2; go_simp⟩) ?_
      simp only [Act.put, List.setIfInBounds_toArray, List.set_cons_zero, List.set_cons_succ]
      have hbx := hbx0.fr f2 (fun h => h)
      have hgx : U.heap.size ≤ gx := hgx2
      have hgl : gx < Z0.heap.size := (Array.getElem?_eq_some_iff.1 hbx).1
      clear hbx0 fz f2 hS hgx2
      obtain ⟨p0, p1, p2⟩ := hbx.cells
      have q0 := hbx.frozen 0
      have q1 := hbx.frozen 1
      have q2 := hbx.frozen 2
      obtain ⟨Z, hZ⟩ : ∃ Z, Z = ((Z0.setCell ⟨gx, 0, none⟩ (.int .i64 x.id)).setCell ⟨gx, 1, none⟩ (.int .i64 x.st)).setCell ⟨gx, 2, none⟩ (.slice x.ka x.kn x.kc) := ⟨_, rfl⟩
      have FZ : Fr Z0 Z (fun k => k = gx) := by rw [hZ]; exact Fr.set3x _ _ _ _ _
      have HUZ : Hid (Fr U Z (fun _ => False)) := hide ((fz2.trans FZ).mono (fun k hk h => by rcases h with h | h; exact h; (have h : k = gx := h; omega)))
      have hgU : w.heap.size + 1 < U.heap.size := by omega
      have HM : Hid (Mid w Z m x gx) := hide ⟨HBU.out.fr HUZ.out (fun h => h), HZU.out.fr HUZ.out (fun h => h), by rw [hZ]; exact hbx.put x, HFU.out.two HUZ.out, by omega, by have := FZ.size; omega⟩
      have HZE := hide hZ
      refine wpAnyK_one (i := 8) (by kernel_rfl) rfl rfl ?_
      go_simp
      rw [← HZE.out]
      refine ⟨HUZ.out, ?_⟩
      refine wpAnyK_done (by kernel_rfl) ?_ _
      clear hZ FZ p0 p1 p2 q0 q1 q2 hbx e0 e1 e2 b0 b1 b2 b3 b4 b3' fz2 HZE
      have hQ' : ∀ k, Z.heap.size ≤ k → (fun k => Q k ∧ (k < w.heap.size ∨ Z.heap.size ≤ k)) k := fun k hk => ⟨HQ.out k (by have := HM.out.f.size; omega), .inr hk⟩
      have hDZ : DM (fun k => Q k ∧ (k < w.heap.size ∨ Z.heap.size ≤ k)) Z m := (HD.out.imp (fun k hk hq => ⟨hq, .inl hk⟩)).frF HM.out.f
      have HWO := hide (without_ref hDZ hQ' hnb t i x HFST.out.1 HFST.out.2.1 HFST.out.2.2)
      obtain ⟨LL, hLL⟩ : ∃ LL, LL = m.A.take i ++ m.A.drop (i + 1) := ⟨_, rfl⟩
      rw [← hLL] at HWO
      unfold Dm.agg at HWO
      have HLL := hide hLL
      obtain ⟨⟨b0, b1, b2, b3, b4⟩, _⟩ := HM.out.bm.all
      have HDX := hide (hDZ.1.2.2 x (List.mem_of_getElem? HFST.out.1))
      clear hQ' hDZ hLL
      dsimp only at HWO
      generalize hnA : m.A.length = nA at *
      clear hnA
      go_wp2_with fail
      refine HWO.out.mono ?_
      rintro e V3 ⟨a3, c3, rfl, hD3, f3⟩
      have hbz3 := HM.out.bz.fr f3 (fun h => h)
      have hbx3 := HM.out.bx.fr f3 (fun h => h)
      obtain ⟨⟨c0, c1, c2, c3', c4⟩, j0, j1, j2, j3, j4⟩ := (HM.out.bm.fr f3 (fun h => h)).all
      obtain ⟨W3, hW3⟩ : ∃ W3, W3 = ((((V3.setCell ⟨w.heap.size, 0, none⟩ (.int .i64 m.now)).setCell ⟨w.heap.size, 1, none⟩ (.int .i64 m.last)).setCell ⟨w.heap.size, 2, none⟩ (.int .i64 m.begun)).setCell ⟨w.heap.size, 3, none⟩ (.slice a3 LL.length c3)).setCell ⟨w.heap.size, 4, none⟩ (.slice m.ha m.H.length m.hc) := ⟨_, rfl⟩
      have F3 : Fr V3 W3 (fun k => k = w.heap.size) := by rw [hW3]; exact Fr.set5 _ _ 0 1 2 3 4 _ _ _ _ _
      have hb3 : BoxM W3 w.heap.size { m with aa := a3, ac := c3, A := LL } := by rw [hW3]; exact (HM.out.bm.fr f3 (fun h => h)).put { m with aa := a3, ac := c3, A := LL }
      have hnq : ∀ k, (Q k ∧ (k < w.heap.size ∨ Z.heap.size ≤ k)) → ¬ (k = w.heap.size ∨ k = w.heap.size + 1 ∨ k = gx) := fun k hk h => by
        have h1 := HM.out.g
        have h2 := HM.out.gl
        rcases hk.2 with q | q <;> rcases h with h | h | h <;> omega
      have hD3' := hD3.fr F3 (fun k hk h => hnq k hk (.inl h))
      have hz3 := hbz3.fr F3 (fun h => by have h : w.heap.size + 1 = w.heap.size := h; omega)
      have hx3 := hbx3.fr F3 (fun h => by have h : gx = w.heap.size := h; have := HM.out.g; omega)
      have hf3 : Fr w W3 (fun _ => False) := ((HM.out.f.two f3).trans F3).mono (fun k hk h => by rcases h with h | h; exact h; (have h : k = w.heap.size := h; omega))
      have HW3 := hide hW3
      obtain ⟨⟨k0, k1, k2, k3, k4⟩, l0, l1, l2, l3, l4⟩ := hb3.all
      obtain ⟨⟨g0, g1, g2, g3, g4⟩, i0, i1, i2, i3, i4⟩ := hz3.all
      obtain ⟨x0, x1, x2⟩ := hx3.cells
      dsimp only at k0 k1 k2 k3 k4
      clear hW3 hD3 hbz3 hbx3 b0 b1 b2 b3 b4
      obtain ⟨W4, hW4⟩ : ∃ W4, W4 = W3.setCell ⟨w.heap.size, 1, none⟩ (.int .i64 (stampD m)) := ⟨_, rfl⟩
      have F4 : Fr W3 W4 (fun k => k = w.heap.size) := by rw [hW4]; exact Fr.setCell _ _ _
      have hb4 : BoxM W4 w.heap.size { m with last := stampD m, aa := a3, ac := c3, A := LL } := by rw [hW4]; exact hb3.last' _
      have hz4 := hz3.fr F4 (fun h => by have h : w.heap.size + 1 = w.heap.size := h; omega)
      have hx4 := hx3.fr F4 (fun h => by have h : gx = w.heap.size := h; have := HM.out.g; omega)
      have hf4 : Fr w W4 (fun _ => False) := by rw [hW4]; exact hf3.box (Nat.le_refl _)
      have hD4 := hD3'.fr F4 (fun k hk h => hnq k hk (.inl h))
      have HW4 := hide hW4
      have hs4 : gx < W4.heap.size := (Array.getElem?_eq_some_iff.1 hx4).1
      have FE := Fr.alloc W4 (.cells #[] 89) (fun _ => False)
      obtain ⟨⟨r0, r1, r2, r3, r4⟩, _⟩ := (hb4.fr FE (fun h => h)).all
      obtain ⟨v5, W5, hr5, hG5⟩ := (empty_row W4 89).row ty27 27 (ownsRow_fr hD4.2.1 FE (fun _ _ h => h)) (by simp; omega)
      rw [List.nil_append] at hG5
      obtain ⟨s0, s1, s2⟩ := (hx4.fr hG5.2.1 (fun h => h)).cells
      obtain ⟨v7, W7, hr7, hG7⟩ := hG5.push ty27 27 ⟨t, stampD m, x.ka, x.kn, x.kc, x.K⟩ (by dsimp only; omega)
      dsimp only at hr5 hr7 hG7
      obtain ⟨HL, hHL⟩ : ∃ HL, HL = m.H ++ [(⟨t, stampD m, x.ka, x.kn, x.kc, x.K⟩ : Rw)] := ⟨_, rfl⟩
      rw [← hHL] at hG7
      have HHL := hide hHL
      obtain ⟨a7, c7, rfl⟩ := hG7.shape
      have hb7 := hb4.fr hG7.2.1 (fun h => h)
      have hz7 := hz4.fr hG7.2.1 (fun h => h)
      obtain ⟨⟨d0, d1, d2, d3, d4⟩, n0, n1, n2, n3, n4⟩ := hb7.all
      obtain ⟨W8, hW8⟩ : ∃ W8, W8 = W7.setCell ⟨w.heap.size, 4, none⟩ (.slice a7 HL.length c7) := ⟨_, rfl⟩
      have F8 : Fr W7 W8 (fun k => k = w.heap.size) := by rw [hW8]; exact Fr.setCell _ _ _
      have hb8 : BoxM W8 w.heap.size { m with last := stampD m, aa := a3, ac := c3, A := LL, ha := a7, hc := c7, H := HL } := by rw [hW8]; exact hb7.his' _ _ _
      have hz8 := hz7.fr F8 (fun h => by have h : w.heap.size + 1 = w.heap.size := h; omega)
      have hf8 : Fr w W8 (fun _ => False) := by rw [hW8]; exact (hf4.two hG7.2.1).box (Nat.le_refl _)
      have hA8 := (hD4.1.fr hG7.2.1 (fun _ _ h => h)).fr F8 (fun k hk h => hnq k hk (.inl h))
      have HW8 := hide hW8
      obtain ⟨⟨f0, f1, f2, f3', f4⟩, _⟩ := hb8.all
      obtain ⟨⟨o0, o1, o2, o3, o4⟩, u0, u1, u2, u3, u4⟩ := hz8.all
      have HO := out_box (m := { m with last := stampD m, aa := a3, ac := c3, A := LL, ha := a7, hc := c7, H := HL }) hz8 (by omega) hf8
      have hgm : w.heap.size + 1 < W4.heap.size := hz4.lt
      have HDM : Hid (∀ w', Fr W8 w' (fun k => k = w.heap.size + 1) → Fr w w' (fun _ => False) → DM Q w' { m with last := stampD m, aa := a3, ac := c3, A := LL, ha := a7, hc := c7, H := HL }) := hide (fun w' q1 q2 => by
        refine ⟨(hA8.fr q1 (fun k hk h => hnq k hk (.inr (.inl h)))).imp (fun k _ hk => hk.1), ownsRow_fr (ownsRow_fr hG7.1 F8 (fun k hk h => by have := hG7.2.2 k hk; have h : k = w.heap.size := h; omega)) q1 (fun k hk h => by have := hG7.2.2 k hk; have h : k = w.heap.size + 1 := h; omega), fun k hk => HQ.out k (by have := hG7.2.2 k hk; omega), fun y hy => ?_⟩
        rw [HHL.out] at hy
        rcases List.mem_append.1 hy with hy | hy
        · exact (HD.out.2.2.2 y hy).fr q2 (fun _ _ h => h)
        · have : y = ⟨t, stampD m, x.ka, x.kn, x.kc, x.K⟩ := by simpa using hy
          subst this
          exact (HD.out.1.2.2 x (List.mem_of_getElem? HFST.out.1)).fr q2 (fun _ _ h => h))
      have HST := hide (Fr.set5 W8 (w.heap.size + 1) 0 1 2 3 4 (.int .i64 m.now) (.int .i64 (stampD m)) (.int .i64 m.begun) (.slice a3 LL.length c3) (.slice a7 HL.length c7))
      dsimp only at f0 f1 f2 f3' f4 d0 d1 d2 d3 d4 r0 r1 r2 r3 r4 HO
      clear hb3 hz3 hx3 hf3 hD3' hnq F3 f3 HWO F4 hb4 hz4 hx4 hf4 hD4 hW4 hs4 FE hG5 hG7 hHL hb7 hz7 F8 hb8 hz8 hf8 hA8 hW8 hgm
      have hkn : (x.kn : Int) > 0 := by have := HKP.out; omega
      have hknb : decide ((x.kn : Int) > 0) = true := by simp; have := HKP.out; omega
      have hknp : 0 < x.kn := HKP.out
      generalize stampD m = sd at *
      go_wp2_with (first | (rw [← HW3.out]; clear HW3) | (rw [← HW4.out]; clear HW4) | (rw [← HW8.out]; clear HW8) | (refine wpList_plain rfl fun _ hK => wp_append_to (.tmp 48) (.tmp 50) 27 rfl _ rfl _ rfl (.slice (some ⟨W4.heap.size, 0, none⟩) 0 0) (.slice m.ha m.H.length m.hc) rfl rfl _ _ hr5 (hK _ _ ?_); clear hK) | (refine wpList_plain rfl fun _ hK => wp_append_to (.tmp 52) (.tmp 58) 27 rfl _ rfl _ rfl v5 (.slice (some ⟨W5.heap.size, 0, none⟩) 1 1) rfl rfl _ _ hr7 (hK _ _ ?_); clear hK))
      exact bodyPost_ret (results_m3 Try.results26 _ _ (w.heap.size + 1) HO.out.1 rfl) rfl ⟨_, _, HCK.out, HO.out.2, .inr (.inr ⟨i, x, a3, c3, a7, c7, HFST.out, rfl, HK0.out, by rw [show erased m i = LL from HLL.out.symm, ← HHL.out]; rfl, by rw [show erased m i = LL from HLL.out.symm, ← HHL.out]; exact HDM.out _ HST.out HO.out.2⟩)⟩
end Go.Proofs.Ytiooacaplajidaa
