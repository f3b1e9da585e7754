/- One step of MvccPlays. -/
import Derived.Test.YtiooacaplajidaaOl
namespace Go.Proofs.Ytiooacaplajidaa
open Go.RowKit Go.Maps
set_option maxRecDepth 100000
set_option linter.unusedVariables false
set_option linter.unusedSimpArgs false

def AskS (U : World) (g : Nat) (m : Dm) (ga k : Nat) (st : Int) : Prop := BoxM U g m ∧ U.cell? ⟨ga, k, none⟩ = some (.int .i64 st)
theorem M3.fin {w0 V w' : World} {bs mb N D g : Nat} {F : Nat → Option Obj} {E E0 : Nat → Prop} {s : St} {m : Dm} (h : M3 w0 bs mb F E N D s m V) (hE : E g) (hF : F g = none) (hE0 : ∀ k, E0 k → E k) (hF0 : ∀ k o, F k = some o → E0 k) (f : Fr V w' (fun k => k = g)) : M3 w0 bs mb F E0 N D s m w' := (h.box (f.mono (fun k _ hk => by have hk : k = g := hk; rw [hk]; exact ⟨hE, hF⟩))).bare hE0 hF0
set_option maxHeartbeats 16000000 in
theorem step_other {w0 W : World} {bs mb j q N D : Nat} {F : Nat → Option Obj} {E0 : Nat → Prop} {s : St} {m : Dm} (h : M3 w0 bs mb F E0 N D s m W) (hp : PB j q N D s m) (hbs : w0.heap.size ≤ bs) (o : OpR) (hj : j ≤ 1048575) (hq : q + o.kn ≤ 1048576) (ht : In64 o.txn) (hK : StrsIn (fun k => k < w0.heap.size) w0 o.ka o.K) (hkn : o.K.length = o.kn) (hkc : o.ka = none → o.kc = 0) (hk : o.kind ≠ 0 ∧ o.kind ≠ 1 ∧ o.kind ≠ 2 ∧ o.kind ≠ 3 ∧ o.kind ≠ 4 ∧ o.kind ≠ 5) : Calls Try.prog 11 #[.pointer (some ⟨mb, 0, none⟩), m.agg, .agg #[.int .i64 o.kind, .int .i64 o.txn, .slice o.ka o.kn o.kc, .int .i64 o.n]] W fun e W' => StepP w0 bs mb F E0 (j + 1) (q + o.kn) e W' := by
  have hT := three_boxes W m o
  obtain ⟨W2, hW2⟩ : ∃ W2, W2 = ((W.alloc (.cells #[.int .i64 m.now, .int .i64 m.last, .int .i64 m.begun, .slice m.aa m.A.length m.ac, .slice m.ha m.H.length m.hc] 29)).alloc (.cells #[.int .i64 o.kind, .int .i64 o.txn, .slice o.ka o.kn o.kc, .int .i64 o.n] 33)).alloc (.cells #[.int .i64 0, .int .i64 0, .int .i64 0, .slice none 0 0, .slice none 0 0] 29) := ⟨_, rfl⟩
  rw [← hW2] at hT
  have HW2 := hide hW2
  have hM := h.boxes hT.f
  obtain ⟨E, hEE⟩ : ∃ E : Nat → Prop, E = (fun k => E0 k ∨ (W.heap.size ≤ k ∧ k < W2.heap.size)) := ⟨_, rfl⟩
  have HE0 : Hid (∀ k, E0 k → E k) := hide (fun k hk => by rw [hEE]; exact .inl hk)
  have HF0 : Hid (∀ k o, F k = some o → E0 k) := hide (fun k o ho => (h.held ho).1)
  have HFN : Hid (∀ k, W.heap.size ≤ k → F k = none) := hide (fun k hk => by
    cases hF : F k with
    | none => rfl
    | some o => have := h.lt (h.held hF).1; omega)
  rw [← hEE] at hM
  have hE4 : E W.heap.size := by rw [hEE]; exact .inr ⟨Nat.le_refl _, by have := hT.l; omega⟩
  have hE5 : E (W.heap.size + 1) := by rw [hEE]; exact .inr ⟨by omega, by have := hT.l; omega⟩
  have hE6 : E (W.heap.size + 2) := by rw [hEE]; exact .inr ⟨by omega, by have := hT.l; omega⟩
  have HI := hide h.inv
  have HP := hide hp
  have HM := hide hM
  have HT := hide hT
  have HE := hide (⟨hE4, hE5, hE6⟩ : E W.heap.size ∧ E (W.heap.size + 1) ∧ E (W.heap.size + 2))
  have hA : m.A.length ≤ 1048576 := by have := hp.a; omega
  have hH : m.H.length ≤ 1048576 := by have := hp.h; omega
  have HKB : Hid (∀ x, (x ∈ m.A ∨ x ∈ m.H) → x.K.length ≤ 1048576) := hide (fun x hx => by have := hp.k x hx; omega)
  have hN : N ≤ 2199023255552 := by have := hp.n; have h2 : j * 2097152 ≤ 1048575 * 2097152 := Nat.mul_le_mul_right _ hj; omega
  have hbg : s.begun ≤ 9000000000000000000 := by have := hp.b; omega
  obtain ⟨⟨c0, c1, c2, c3, c4⟩, y0, y1, y2, y3, y4⟩ := hT.b.all
  obtain ⟨p0, p1, p2, p3⟩ := hT.p.cells
  obtain ⟨⟨d0, d1, d2, d3, d4⟩, z0, z1, z2, z3, z4⟩ := hT.z.all
  have HS2 := hide hT.l
  have HHK := hide hK
  clear hW2 h hM hT hp hEE hE4 hE5 hE6 hK
  unfold Dm.agg
  have k0 : (o.kind == 0) = false := by simp [hk.1]
  have k1 : (o.kind == 1) = false := by simp [hk.2.1]
  have k2 : (o.kind == 2) = false := by simp [hk.2.2.1]
  have k3 : (o.kind == 3) = false := by simp [hk.2.2.2.1]
  have k4 : (o.kind == 4) = false := by simp [hk.2.2.2.2.1]
  have k5 : (o.kind == 5) = false := by simp [hk.2.2.2.2.2]
  have HO := out_box (m := m) HT.out.z (by omega) HT.out.f
  have HST := hide (Fr.set5 W2 (W.heap.size + 2) 0 1 2 3 4 (.int .i64 m.now) (.int .i64 m.last) (.int .i64 m.begun) (.slice m.aa m.A.length m.ac) (.slice m.ha m.H.length m.hc))
  clear hk
  go_enter Try.func11, Try.ntmps11
  go_wp2_with (rw [← HW2.out]; clear HW2)
  exact bodyPost_ret (results_m2 Try.results11 _ _ (W.heap.size + 2) HO.out.1 rfl) rfl ⟨m, s, N, D, rfl, HM.out.fin HE.out.2.2 (HFN.out _ (by omega)) HE0.out HF0.out HST.out, HP.out.same o.kn⟩
set_option maxHeartbeats 16000000 in
theorem step_begin {w0 W : World} {bs mb j q N D : Nat} {F : Nat → Option Obj} {E0 : Nat → Prop} {s : St} {m : Dm} (h : M3 w0 bs mb F E0 N D s m W) (hp : PB j q N D s m) (hbs : w0.heap.size ≤ bs) (o : OpR) (hj : j ≤ 1048575) (hq : q + o.kn ≤ 1048576) (ht : In64 o.txn) (hK : StrsIn (fun k => k < w0.heap.size) w0 o.ka o.K) (hkn : o.K.length = o.kn) (hkc : o.ka = none → o.kc = 0) (hk : o.kind = 0) : Calls Try.prog 11 #[.pointer (some ⟨mb, 0, none⟩), m.agg, .agg #[.int .i64 o.kind, .int .i64 o.txn, .slice o.ka o.kn o.kc, .int .i64 o.n]] W fun e W' => StepP w0 bs mb F E0 (j + 1) (q + o.kn) e W' := by
  have hT := three_boxes W m o
  obtain ⟨W2, hW2⟩ : ∃ W2, W2 = ((W.alloc (.cells #[.int .i64 m.now, .int .i64 m.last, .int .i64 m.begun, .slice m.aa m.A.length m.ac, .slice m.ha m.H.length m.hc] 29)).alloc (.cells #[.int .i64 o.kind, .int .i64 o.txn, .slice o.ka o.kn o.kc, .int .i64 o.n] 33)).alloc (.cells #[.int .i64 0, .int .i64 0, .int .i64 0, .slice none 0 0, .slice none 0 0] 29) := ⟨_, rfl⟩
  rw [← hW2] at hT
  have HW2 := hide hW2
  have hM := h.boxes hT.f
  obtain ⟨E, hEE⟩ : ∃ E : Nat → Prop, E = (fun k => E0 k ∨ (W.heap.size ≤ k ∧ k < W2.heap.size)) := ⟨_, rfl⟩
  have HE0 : Hid (∀ k, E0 k → E k) := hide (fun k hk => by rw [hEE]; exact .inl hk)
  have HF0 : Hid (∀ k o, F k = some o → E0 k) := hide (fun k o ho => (h.held ho).1)
  have HFN : Hid (∀ k, W.heap.size ≤ k → F k = none) := hide (fun k hk => by
    cases hF : F k with
    | none => rfl
    | some o => have := h.lt (h.held hF).1; omega)
  rw [← hEE] at hM
  have hE4 : E W.heap.size := by rw [hEE]; exact .inr ⟨Nat.le_refl _, by have := hT.l; omega⟩
  have hE5 : E (W.heap.size + 1) := by rw [hEE]; exact .inr ⟨by omega, by have := hT.l; omega⟩
  have hE6 : E (W.heap.size + 2) := by rw [hEE]; exact .inr ⟨by omega, by have := hT.l; omega⟩
  have HI := hide h.inv
  have HP := hide hp
  have HM := hide hM
  have HT := hide hT
  have HE := hide (⟨hE4, hE5, hE6⟩ : E W.heap.size ∧ E (W.heap.size + 1) ∧ E (W.heap.size + 2))
  have hA : m.A.length ≤ 1048576 := by have := hp.a; omega
  have hH : m.H.length ≤ 1048576 := by have := hp.h; omega
  have HKB : Hid (∀ x, (x ∈ m.A ∨ x ∈ m.H) → x.K.length ≤ 1048576) := hide (fun x hx => by have := hp.k x hx; omega)
  have hN : N ≤ 2199023255552 := by have := hp.n; have h2 : j * 2097152 ≤ 1048575 * 2097152 := Nat.mul_le_mul_right _ hj; omega
  have hbg : s.begun ≤ 9000000000000000000 := by have := hp.b; omega
  obtain ⟨⟨c0, c1, c2, c3, c4⟩, y0, y1, y2, y3, y4⟩ := hT.b.all
  obtain ⟨p0, p1, p2, p3⟩ := hT.p.cells
  obtain ⟨⟨d0, d1, d2, d3, d4⟩, z0, z1, z2, z3, z4⟩ := hT.z.all
  have HS2 := hide hT.l
  have HHK := hide hK
  clear hW2 h hM hT hp hEE hE4 hE5 hE6 hK
  unfold Dm.agg
  rw [hk] at p0
  clear hk
  have hb0 : 0 ≤ m.begun := by rw [HP.out.pi.begun]; exact HI.out.b0
  have hb1 : m.begun ≤ 9000000000000000000 := by rw [HP.out.pi.begun]; exact hbg
  have HC1 := hide (HM.out.dbegin hA hb0 hb1)
  unfold Dm.agg at HC1
  go_enter Try.func11, Try.ntmps11
  go_wp2_with (rw [← HW2.out]; clear HW2)
  refine HC1.out.mono ?_
  rintro e V ⟨a, c, rfl, hM1, f1⟩
  obtain ⟨m1, hm1⟩ : ∃ m1 : Dm, m1 = { m with begun := m.begun + 1, aa := a, ac := c, A := m.A ++ [newR m] } := ⟨_, rfl⟩
  rw [← hm1] at hM1
  have hbm : m1.begun = s.begun + 1 := by rw [hm1]; show m.begun + 1 = _; rw [HP.out.pi.begun]
  have hlm : m1.last = s.last := by rw [hm1]; exact HP.out.pi.last
  have HM1E := hide hm1
  have hq0 : m.now = m1.now := by rw [hm1]
  have hq1 : m.last = m1.last := by rw [hm1]
  have hq2 : m.begun + 1 = m1.begun := by rw [hm1]
  have hq3 : (Value.slice a (m.A ++ [newR m]).length c) = .slice m1.aa m1.A.length m1.ac := by rw [hm1]
  have hq4 : (Value.slice m.ha m.H.length m.hc) = .slice m1.ha m1.H.length m1.hc := by rw [hm1]
  have hbV := HT.out.b.fr f1 (fun h => h)
  have hpV := HT.out.p.fr f1 (fun h => h)
  have hzV := HT.out.z.fr f1 (fun h => h)
  have hsV := f1.size
  clear c0 c1 c2 c3 c4 p0 p1 p2 p3 d0 d1 d2 d3 d4 y0 y1 y2 y3 y4 z0 z1 z2 z3 z4 HC1 f1 hm1
  obtain ⟨⟨c0, c1, c2, c3, c4⟩, y0, y1, y2, y3, y4⟩ := hbV.all
  obtain ⟨V1, hV1⟩ : ∃ V1, V1 = ((((V.setCell ⟨W.heap.size, 0, none⟩ (.int .i64 m1.now)).setCell ⟨W.heap.size, 1, none⟩ (.int .i64 m1.last)).setCell ⟨W.heap.size, 2, none⟩ (.int .i64 m1.begun)).setCell ⟨W.heap.size, 3, none⟩ (.slice m1.aa m1.A.length m1.ac)).setCell ⟨W.heap.size, 4, none⟩ (.slice m1.ha m1.H.length m1.hc) := ⟨_, rfl⟩
  have fV1 : Fr V V1 (fun k => k = W.heap.size) := by rw [hV1]; exact Fr.set5 _ _ 0 1 2 3 4 _ _ _ _ _
  have hbV1 : BoxM V1 W.heap.size m1 := by rw [hV1]; exact hbV.put m1
  have hzV1 := hzV.fr fV1 (fun h => by have h : W.heap.size + 2 = W.heap.size := h; omega)
  have hMV1 := hM1.box (fV1.mono (fun k _ hk => by have hk : k = W.heap.size := hk; rw [hk]; exact ⟨HE.out.1, HFN.out _ (Nat.le_refl _)⟩))
  have HC2 := hide (hMV1.begin hbg (by omega))
  rw [← hbm, ← hlm] at HC2
  have HV1 := hide hV1
  clear hM1 fV1 hMV1 hV1 hbV hpV hzV
  dsimp only
  rw [hq0, hq1, hq2, hq3, hq4]
  clear hbm hlm hq0 hq1 hq2 hq3 hq4
  go_wp2_with (rw [← HV1.out]; clear HV1)
  refine HC2.out.mono ?_
  rintro e V2 ⟨rfl, ⟨kb, pb, hM2, f2⟩⟩
  have HM2 := hide hM2
  have fD := Fr.drew V2 (fun _ => False)
  have hzE : E (W.heap.size + 2) := HE.out.2.2
  have HBU := hide ((hbV1.fr f2 (fun h => h HE.out.1)).fr fD (fun h => h))
  have HZU := hide ((hzV1.fr f2 (fun h => h hzE)).fr fD (fun h => h))
  have HMU := hide (hM2.fr fD)
  clear c0 c1 c2 c3 c4 y0 y1 y2 y3 y4 HC2 f2 hM2 hbV1 hzV1 HM2
  go_wp2_with fail
  refine wp_region_K (fun _ => true) (fun U : World => BoxM U W.heap.size m1) (by kernel_rfl) ?_
  generalize V2.drew = U at *
  have hS : (fun V : World => BoxM V W.heap.size m1) U := HBU.out
  clear fD
  refine wpAnyK_takeTo 0 (some 37) (.agg #[.int .i64 m1.now, .int .i64 m1.last, .int .i64 m1.begun, .slice m1.aa m1.A.length m1.ac, .slice m1.ha m1.H.length m1.hc]) [11, 12] rfl rfl (by kernel_rfl) (by kernel_rfl) (by kernel_rfl) (by kernel_rfl) (fun _ _ _ h => h) hS (Or.inl ⟨rfl, fun w9 hw1 => by have hw1 : BoxM w9 W.heap.size m1 := hw1; obtain ⟨s0, s1, s2, s3, s4⟩ := hw1.cells; go_simp⟩) ?_
  simp only [Act.put, List.setIfInBounds_toArray, List.set_cons_zero, List.set_cons_succ]
  refine wpAnyK_takeTo 1 (some 38) (.int .i64 m1.begun) [4, 5, 6, 7, 8, 9, 10, 11, 12] rfl rfl (by kernel_rfl) (by kernel_rfl) (by kernel_rfl) (by kernel_rfl) (fun _ _ _ h => h) hS (Or.inl ⟨rfl, fun w9 hw1 => by have hw1 : BoxM w9 W.heap.size m1 := hw1; obtain ⟨s0, s1, s2, s3, s4⟩ := hw1.cells; go_simp⟩) ?_
  simp only [Act.put, List.setIfInBounds_toArray, List.set_cons_zero, List.set_cons_succ]
  refine wpAnyK_takeTo 2 (some 39) (.pointer (some ⟨W.heap.size, 2, none⟩)) [3, 4, 5, 6, 7, 8, 9, 10, 11, 12] rfl rfl (by kernel_rfl) (by kernel_rfl) (by kernel_rfl) (by kernel_rfl) (fun _ _ _ h => h) hS (Or.inl ⟨rfl, fun w9 hw1 => by have hw1 : BoxM w9 W.heap.size m1 := hw1; obtain ⟨s0, s1, s2, s3, s4⟩ := hw1.cells; go_simp⟩) ?_
  simp only [Act.put, List.setIfInBounds_toArray, List.set_cons_zero, List.set_cons_succ]
  refine wpAnyK_takeTo 3 (some 40) (.int .i64 m1.begun) [4, 5, 6, 7, 8, 9, 10, 11, 12] rfl rfl (by kernel_rfl) (by kernel_rfl) (by kernel_rfl) (by kernel_rfl) (fun _ _ _ h => h) hS (Or.inl ⟨rfl, fun w9 hw1 => by have hw1 : BoxM w9 W.heap.size m1 := hw1; obtain ⟨s0, s1, s2, s3, s4⟩ := hw1.cells; go_simp⟩) ?_
  simp only [Act.put, List.setIfInBounds_toArray, List.set_cons_zero, List.set_cons_succ]
  refine wpAnyK_takeTo 4 (some 41) (.bool true) [5, 6, 7, 8, 9, 10, 11, 12] rfl rfl (by kernel_rfl) (by kernel_rfl) (by kernel_rfl) (by kernel_rfl) (fun _ _ _ h => h) hS (Or.inl ⟨rfl, fun w9 hw1 => by have hw1 : BoxM w9 W.heap.size m1 := hw1; obtain ⟨s0, s1, s2, s3, s4⟩ := hw1.cells; go_simp⟩) ?_
  simp only [Act.put, List.setIfInBounds_toArray, List.set_cons_zero, List.set_cons_succ]
  refine wpAnyK_takeTo 5 (some 42) (.bool true) [6, 7, 8, 9, 10, 11, 12] rfl rfl (by kernel_rfl) (by kernel_rfl) (by kernel_rfl) (by kernel_rfl) (fun _ _ _ h => h) hS (Or.inl ⟨rfl, fun w9 hw1 => by have hw1 : BoxM w9 W.heap.size m1 := hw1; obtain ⟨s0, s1, s2, s3, s4⟩ := hw1.cells; go_simp⟩) ?_
  simp only [Act.put, List.setIfInBounds_toArray, List.set_cons_zero, List.set_cons_succ]
  refine wpAnyK_takeTo 6 (some 43) (.int .i64 m1.last) [9, 10, 12] rfl rfl (by kernel_rfl) (by kernel_rfl) (by kernel_rfl) (by kernel_rfl) (fun _ _ _ h => h) hS (Or.inl ⟨rfl, fun w9 hw1 => by have hw1 : BoxM w9 W.heap.size m1 := hw1; obtain ⟨s0, s1, s2, s3, s4⟩ := hw1.cells; go_simp⟩) ?_
  simp only [Act.put, List.setIfInBounds_toArray, List.set_cons_zero, List.set_cons_succ]
  refine wpAnyK_takeTo 7 (some 44) (.pointer (some ⟨W.heap.size, 1, none⟩)) [8, 9, 10, 12] rfl rfl (by kernel_rfl) (by kernel_rfl) (by kernel_rfl) (by kernel_rfl) (fun _ _ _ h => h) hS (Or.inl ⟨rfl, fun w9 hw1 => by have hw1 : BoxM w9 W.heap.size m1 := hw1; obtain ⟨s0, s1, s2, s3, s4⟩ := hw1.cells; go_simp⟩) ?_
  simp only [Act.put, List.setIfInBounds_toArray, List.set_cons_zero, List.set_cons_succ]
  refine wpAnyK_takeTo 8 (some 45) (.int .i64 m1.last) [9, 10, 12] rfl rfl (by kernel_rfl) (by kernel_rfl) (by kernel_rfl) (by kernel_rfl) (fun _ _ _ h => h) hS (Or.inl ⟨rfl, fun w9 hw1 => by have hw1 : BoxM w9 W.heap.size m1 := hw1; obtain ⟨s0, s1, s2, s3, s4⟩ := hw1.cells; go_simp⟩) ?_
  simp only [Act.put, List.setIfInBounds_toArray, List.set_cons_zero, List.set_cons_succ]
  refine wpAnyK_takeTo 9 (some 46) (.bool true) [10, 12] rfl rfl (by kernel_rfl) (by kernel_rfl) (by kernel_rfl) (by kernel_rfl) (fun _ _ _ h => h) hS (Or.inl ⟨rfl, fun w9 hw1 => by have hw1 : BoxM w9 W.heap.size m1 := hw1; obtain ⟨s0, s1, s2, s3, s4⟩ := hw1.cells; go_simp⟩) ?_
  simp only [Act.put, List.setIfInBounds_toArray, List.set_cons_zero, List.set_cons_succ]
  refine wpAnyK_takeTo 10 (some 47) (.bool true) [12] rfl rfl (by kernel_rfl) (by kernel_rfl) (by kernel_rfl) (by kernel_rfl) (fun _ _ _ h => h) hS (Or.inl ⟨rfl, fun w9 hw1 => by have hw1 : BoxM w9 W.heap.size m1 := hw1; obtain ⟨s0, s1, s2, s3, s4⟩ := hw1.cells; go_simp⟩) ?_
  simp only [Act.put, List.setIfInBounds_toArray, List.set_cons_zero, List.set_cons_succ]
  obtain ⟨⟨t0, t1, t2, t3, t4⟩, u0, u1, u2, u3, u4⟩ := HZU.out.all
  have HB6 := hide (HZU.out.put m1)
  have FST := Fr.set5 U (W.heap.size + 2) 0 1 2 3 4 (.int .i64 m1.now) (.int .i64 m1.last) (.int .i64 m1.begun) (.slice m1.aa m1.A.length m1.ac) (.slice m1.ha m1.H.length m1.hc)
  have HST := hide FST
  have HS6 : Hid (BoxM (((((U.setCell ⟨W.heap.size + 2, 0, none⟩ (.int .i64 m1.now)).setCell ⟨W.heap.size + 2, 1, none⟩ (.int .i64 m1.last)).setCell ⟨W.heap.size + 2, 2, none⟩ (.int .i64 m1.begun)).setCell ⟨W.heap.size + 2, 3, none⟩ (.slice m1.aa m1.A.length m1.ac)).setCell ⟨W.heap.size + 2, 4, none⟩ (.slice m1.ha m1.H.length m1.hc)) W.heap.size m1) := hide (by
    exact HBU.out.fr FST (fun h => by have h : W.heap.size = W.heap.size + 2 := h; omega))
  clear hS FST
  refine wpAnyK_one (i := 11) (by kernel_rfl) rfl rfl ?_
  go_simp
  refine ⟨HS6.out, ?_⟩
  refine wpAnyK_one (i := 12) (by kernel_rfl) rfl rfl ?_
  go_simp
  refine ⟨HS6.out, ?_⟩
  refine wpAnyK_done (by kernel_rfl) ?_ _
  go_wp2
  exact bodyPost_ret (results_m2 Try.results11 _ _ (W.heap.size + 2) HB6.out rfl) rfl ⟨m1, _, _, _, rfl, HMU.out.fin hzE (HFN.out _ (by omega)) HE0.out HF0.out HST.out, by have h := HP.out.begin HI.out o.kn kb pb a c; rw [← HP.out.pi.begun] at h; rw [HM1E.out]; exact h⟩
set_option maxHeartbeats 16000000 in
theorem step_write {w0 W : World} {bs mb j q N D : Nat} {F : Nat → Option Obj} {E0 : Nat → Prop} {s : St} {m : Dm} (h : M3 w0 bs mb F E0 N D s m W) (hp : PB j q N D s m) (hbs : w0.heap.size ≤ bs) (o : OpR) (hj : j ≤ 1048575) (hq : q + o.kn ≤ 1048576) (ht : In64 o.txn) (hK : StrsIn (fun k => k < w0.heap.size) w0 o.ka o.K) (hkn : o.K.length = o.kn) (hkc : o.ka = none → o.kc = 0) (hk : o.kind = 1) : Calls Try.prog 11 #[.pointer (some ⟨mb, 0, none⟩), m.agg, .agg #[.int .i64 o.kind, .int .i64 o.txn, .slice o.ka o.kn o.kc, .int .i64 o.n]] W fun e W' => StepP w0 bs mb F E0 (j + 1) (q + o.kn) e W' := by
  have hT := three_boxes W m o
  obtain ⟨W2, hW2⟩ : ∃ W2, W2 = ((W.alloc (.cells #[.int .i64 m.now, .int .i64 m.last, .int .i64 m.begun, .slice m.aa m.A.length m.ac, .slice m.ha m.H.length m.hc] 29)).alloc (.cells #[.int .i64 o.kind, .int .i64 o.txn, .slice o.ka o.kn o.kc, .int .i64 o.n] 33)).alloc (.cells #[.int .i64 0, .int .i64 0, .int .i64 0, .slice none 0 0, .slice none 0 0] 29) := ⟨_, rfl⟩
  rw [← hW2] at hT
  have HW2 := hide hW2
  have hM := h.boxes hT.f
  obtain ⟨E, hEE⟩ : ∃ E : Nat → Prop, E = (fun k => E0 k ∨ (W.heap.size ≤ k ∧ k < W2.heap.size)) := ⟨_, rfl⟩
  have HE0 : Hid (∀ k, E0 k → E k) := hide (fun k hk => by rw [hEE]; exact .inl hk)
  have HF0 : Hid (∀ k o, F k = some o → E0 k) := hide (fun k o ho => (h.held ho).1)
  have HFN : Hid (∀ k, W.heap.size ≤ k → F k = none) := hide (fun k hk => by
    cases hF : F k with
    | none => rfl
    | some o => have := h.lt (h.held hF).1; omega)
  rw [← hEE] at hM
  have hE4 : E W.heap.size := by rw [hEE]; exact .inr ⟨Nat.le_refl _, by have := hT.l; omega⟩
  have hE5 : E (W.heap.size + 1) := by rw [hEE]; exact .inr ⟨by omega, by have := hT.l; omega⟩
  have hE6 : E (W.heap.size + 2) := by rw [hEE]; exact .inr ⟨by omega, by have := hT.l; omega⟩
  have HI := hide h.inv
  have HP := hide hp
  have HM := hide hM
  have HT := hide hT
  have HE := hide (⟨hE4, hE5, hE6⟩ : E W.heap.size ∧ E (W.heap.size + 1) ∧ E (W.heap.size + 2))
  have hA : m.A.length ≤ 1048576 := by have := hp.a; omega
  have hH : m.H.length ≤ 1048576 := by have := hp.h; omega
  have HKB : Hid (∀ x, (x ∈ m.A ∨ x ∈ m.H) → x.K.length ≤ 1048576) := hide (fun x hx => by have := hp.k x hx; omega)
  have hN : N ≤ 2199023255552 := by have := hp.n; have h2 : j * 2097152 ≤ 1048575 * 2097152 := Nat.mul_le_mul_right _ hj; omega
  have hbg : s.begun ≤ 9000000000000000000 := by have := hp.b; omega
  obtain ⟨⟨c0, c1, c2, c3, c4⟩, y0, y1, y2, y3, y4⟩ := hT.b.all
  obtain ⟨p0, p1, p2, p3⟩ := hT.p.cells
  obtain ⟨⟨d0, d1, d2, d3, d4⟩, z0, z1, z2, z3, z4⟩ := hT.z.all
  have HS2 := hide hT.l
  have HHK := hide hK
  clear hW2 h hM hT hp hEE hE4 hE5 hE6 hK
  unfold Dm.agg
  rw [hk] at p0
  clear hk
  have HC1 := hide (HM.out.dwrite hbs hA o.txn o.ka o.kn o.kc o.K HHK.out hkn hkc (fun x hx => by have := HKB.out x (.inl hx); omega))
  unfold Dm.agg at HC1
  go_enter Try.func11, Try.ntmps11
  go_wp2_with (rw [← HW2.out]; clear HW2)
  refine HC1.out.mono ?_
  rintro e V ⟨m1, hM1, f1, hcase⟩
  obtain ⟨cd, rfl, hcd⟩ : ∃ cd : Int, e = .returned (.tuple #[.agg #[.int .i64 m1.now, .int .i64 m1.last, .int .i64 m1.begun, .slice m1.aa m1.A.length m1.ac, .slice m1.ha m1.H.length m1.hc], .int .i64 cd]) ∧ (((∀ x ∈ m.A, x.id ≠ o.txn) ∧ m1 = m ∧ cd = 70) ∨ (∃ (i : Nat) (x : Rw) (a : Option Addr) (c : Nat) (k1 : Option Addr) (k2 k3 : Nat), First m o.txn i x ∧ m1 = { m with aa := a, ac := c, A := m.A.set i ⟨x.id, x.st, k1, k2, k3, x.K ++ o.K⟩ } ∧ cd = 0)) := by
    rcases hcase with ⟨r1, r2, r3⟩ | ⟨i, x, a, c, k1, k2, k3, r1, r2, r3⟩
    · exact ⟨70, r3, .inl ⟨r1, r2, rfl⟩⟩
    · exact ⟨0, r3, .inr ⟨i, x, a, c, k1, k2, k3, r1, r2, rfl⟩⟩
  have HCD := hide hcd
  clear hcase hcd
  obtain ⟨V1, hV1⟩ : ∃ V1, V1 = V.alloc (.cells #[.int .i64 m1.now, .int .i64 m1.last, .int .i64 m1.begun, .slice m1.aa m1.A.length m1.ac, .slice m1.ha m1.H.length m1.hc] 29) := ⟨_, rfl⟩
  have fV1 : Fr V V1 (fun _ => False) := by rw [hV1]; exact Fr.alloc V _ _
  have hbx : BoxM V1 V.heap.size m1 := by rw [hV1]; exact heap_alloc_new V _
  have hxl := hbx.lt
  have hM2 := hM1.boxes fV1
  have hpV := (HT.out.p.fr f1 (fun h => h)).fr fV1 (fun h => h)
  have hzV := (HT.out.z.fr f1 (fun h => h)).fr fV1 (fun h => h)
  have hsV : W2.heap.size ≤ V.heap.size := f1.size
  have hl2 := HT.out.l
  obtain ⟨gx, hgx⟩ : ∃ gx, gx = V.heap.size := ⟨_, rfl⟩
  have HV1 := hide hV1
  have fD := Fr.drew V1 (fun _ => False)
  have HMU := hide (hM2.fr fD)
  have HXU := hide (hbx.fr fD (fun h => h))
  have HPU := hide (hpV.fr fD (fun h => h))
  have HZU := hide (hzV.fr fD (fun h => h))
  have hEx : (fun k => E k ∨ (V.heap.size ≤ k ∧ k < V1.heap.size)) V.heap.size := .inr ⟨Nat.le_refl _, hxl⟩
  have hE5 : (fun k => E k ∨ (V.heap.size ≤ k ∧ k < V1.heap.size)) (W.heap.size + 1) := .inl HE.out.2.1
  have hE6 : (fun k => E k ∨ (V.heap.size ≤ k ∧ k < V1.heap.size)) (W.heap.size + 2) := .inl HE.out.2.2
  obtain ⟨E1, hE1⟩ : ∃ E1 : Nat → Prop, E1 = (fun k => E k ∨ (V.heap.size ≤ k ∧ k < V1.heap.size)) := ⟨_, rfl⟩
  rw [← hE1] at HMU
  have HE10 : Hid (∀ k, E0 k → E1 k) := hide (fun k hk => by rw [hE1]; exact .inl (HE0.out k hk))
  have HEX : Hid (E1 gx ∧ E1 (W.heap.size + 1) ∧ E1 (W.heap.size + 2)) := hide (by rw [hE1, hgx]; exact ⟨hEx, hE5, hE6⟩)
  have hg6 : gx ≠ W.heap.size + 2 := by omega
  rw [← hgx] at HXU
  clear c0 c1 c2 c3 c4 p0 p1 p2 p3 d0 d1 d2 d3 d4 y0 y1 y2 y3 y4 z0 z1 z2 z3 z4 HC1 f1 fV1 hM1 hM2 hbx hxl hpV hzV hV1 hEx hE5 hE6 hE1 fD
  go_wp2_with (rw [← HV1.out]; clear HV1)
  rw [← hgx]
  refine wp_region_K (fun _ => true) (fun U : World => BoxM U gx m1 ∧ BoxP U (W.heap.size + 1) o) (by kernel_rfl) ?_
  generalize V1.drew = U at *
  have hS : (fun V : World => BoxM V gx m1 ∧ BoxP V (W.heap.size + 1) o) U := ⟨HXU.out, HPU.out⟩
  clear hgx
  refine wpAnyK_takeTo 0 (some 59) (.agg #[.int .i64 m1.now, .int .i64 m1.last, .int .i64 m1.begun, .slice m1.aa m1.A.length m1.ac, .slice m1.ha m1.H.length m1.hc]) [9, 10] rfl rfl (by kernel_rfl) (by kernel_rfl) (by kernel_rfl) (by kernel_rfl) (fun _ _ _ h => h) hS (Or.inl ⟨rfl, fun w9 hw1 => by obtain ⟨hwa, hwb⟩ := hw1; obtain ⟨s0, s1, s2, s3, s4⟩ := hwa.cells; obtain ⟨n0, n1, n2, n3⟩ := hwb.cells; go_simp⟩) ?_
  simp only [Act.put, List.setIfInBounds_toArray, List.set_cons_zero, List.set_cons_succ]
  refine wpAnyK_takeTo 1 (some 60) (.pointer (some ⟨mb, 0, none⟩)) [6, 8, 9, 10] rfl rfl (by kernel_rfl) (by kernel_rfl) (by kernel_rfl) (by kernel_rfl) (fun _ _ _ h => h) hS (Or.inl ⟨rfl, fun w9 hw1 => by obtain ⟨hwa, hwb⟩ := hw1; obtain ⟨s0, s1, s2, s3, s4⟩ := hwa.cells; obtain ⟨n0, n1, n2, n3⟩ := hwb.cells; go_simp⟩) ?_
  simp only [Act.put, List.setIfInBounds_toArray, List.set_cons_zero, List.set_cons_succ]
  refine wpAnyK_takeTo 2 (some 61) (.pointer (some ⟨W.heap.size + 1, 1, none⟩)) [3, 6, 8, 9, 10] rfl rfl (by kernel_rfl) (by kernel_rfl) (by kernel_rfl) (by kernel_rfl) (fun _ _ _ h => h) hS (Or.inl ⟨rfl, fun w9 hw1 => by obtain ⟨hwa, hwb⟩ := hw1; obtain ⟨s0, s1, s2, s3, s4⟩ := hwa.cells; obtain ⟨n0, n1, n2, n3⟩ := hwb.cells; go_simp⟩) ?_
  simp only [Act.put, List.setIfInBounds_toArray, List.set_cons_zero, List.set_cons_succ]
  refine wpAnyK_takeTo 3 (some 62) (.int .i64 o.txn) [6, 8, 9, 10] rfl rfl (by kernel_rfl) (by kernel_rfl) (by kernel_rfl) (by kernel_rfl) (fun _ _ _ h => h) hS (Or.inl ⟨rfl, fun w9 hw1 => by obtain ⟨hwa, hwb⟩ := hw1; obtain ⟨s0, s1, s2, s3, s4⟩ := hwa.cells; obtain ⟨n0, n1, n2, n3⟩ := hwb.cells; go_simp⟩) ?_
  simp only [Act.put, List.setIfInBounds_toArray, List.set_cons_zero, List.set_cons_succ]
  refine wpAnyK_takeTo 4 (some 63) (.pointer (some ⟨W.heap.size + 1, 2, none⟩)) [5, 6, 8, 9, 10] rfl rfl (by kernel_rfl) (by kernel_rfl) (by kernel_rfl) (by kernel_rfl) (fun _ _ _ h => h) hS (Or.inl ⟨rfl, fun w9 hw1 => by obtain ⟨hwa, hwb⟩ := hw1; obtain ⟨s0, s1, s2, s3, s4⟩ := hwa.cells; obtain ⟨n0, n1, n2, n3⟩ := hwb.cells; go_simp⟩) ?_
  simp only [Act.put, List.setIfInBounds_toArray, List.set_cons_zero, List.set_cons_succ]
  refine wpAnyK_takeTo 5 (some 64) (.slice o.ka o.kn o.kc) [6, 8, 9, 10] rfl rfl (by kernel_rfl) (by kernel_rfl) (by kernel_rfl) (by kernel_rfl) (fun _ _ _ h => h) hS (Or.inl ⟨rfl, fun w9 hw1 => by obtain ⟨hwa, hwb⟩ := hw1; obtain ⟨s0, s1, s2, s3, s4⟩ := hwa.cells; obtain ⟨n0, n1, n2, n3⟩ := hwb.cells; go_simp⟩) ?_
  simp only [Act.put, List.setIfInBounds_toArray, List.set_cons_zero, List.set_cons_succ]
  refine wpAnyK_takeTo 7 (some 66) (.int .i64 cd) [8, 10] rfl rfl (by kernel_rfl) (by kernel_rfl) (by kernel_rfl) (by kernel_rfl) (fun _ _ _ h => h) hS (Or.inl ⟨rfl, fun w9 hw1 => by obtain ⟨hwa, hwb⟩ := hw1; obtain ⟨s0, s1, s2, s3, s4⟩ := hwa.cells; obtain ⟨n0, n1, n2, n3⟩ := hwb.cells; go_simp⟩) ?_
  simp only [Act.put, List.setIfInBounds_toArray, List.set_cons_zero, List.set_cons_succ]
  refine wpAnyK_one (i := 6) (by kernel_rfl) rfl rfl ?_
  refine wp_call_to (some 65) rfl 16 #[.pointer (some ⟨mb, 0, none⟩), .int .i64 o.txn, .slice o.ka o.kn o.kc] (by go_simp) (HMU.out.write hbs o.txn ht o.ka o.kn o.kc o.K HHK.out hkn (fun x hx => by have := HP.out.kn _ _ hx; omega)) ?_
  intro e V2 hw
  obtain ⟨rfl, f2, s', hM3, hP3⟩ : e = .returned (.int .i64 cd) ∧ Fr U V2 (fun k => ¬ E1 k) ∧ ∃ s', M3 w0 bs mb F E1 N D s' m1 V2 ∧ PB (j + 1) (q + o.kn) N D s' m1 := by
    rcases HCD.out with ⟨r1, rfl, rfl⟩ | ⟨i, x, a, c, k1, k2, k3, r1, rfl, rfl⟩
    · rcases hw with ⟨_, h1, h2⟩ | ⟨y, h1, _⟩
      · subst h2
        exact ⟨h1, Fr.refl _ _, s, HMU.out, HP.out.same o.kn⟩
      · rw [HP.out.pi.none' r1] at h1; cases h1
    · obtain ⟨y, p1, p2, p3⟩ := HP.out.pi.found r1
      rcases hw with ⟨h1, _⟩ | ⟨y', h1, h2, h3, h4⟩
      · rw [h1] at p1; cases p1
      · rw [p1] at h1
        cases h1
        exact ⟨h2, h4, _, h3, HP.out.write r1 p1 p2 p3 o.K (fun k hk => by obtain ⟨n, hn⟩ := List.getElem?_of_mem hk; obtain ⟨_, _, _, _, _, h⟩ := HHK.out n k hn; exact h) o.kn hkn a c k1 k2 k3⟩
  have hS2 : (fun V : World => BoxM V gx m1 ∧ BoxP V (W.heap.size + 1) o) V2 := ⟨HXU.out.fr f2 (fun h => h HEX.out.1), HPU.out.fr f2 (fun h => h HEX.out.2.1)⟩
  have HZ2 := hide (HZU.out.fr f2 (fun h => h HEX.out.2.2))
  have HM3 := hide hM3
  have HP3 := hide hP3
  refine ⟨_, rfl, fun _ => hS2, ?_⟩
  simp only [Act.put, List.setIfInBounds_toArray, List.set_cons_zero, List.set_cons_succ]
  clear hS HZU hM3 hP3 f2 hw
  have hS := hS2
  have HS2 := hide hS2
  clear hS2
  have HZU := HZ2
  refine wpAnyK_takeTo 8 (some 67) (.bool true) [10] rfl rfl (by kernel_rfl) (by kernel_rfl) (by kernel_rfl) (by kernel_rfl) (fun _ _ _ h => h) hS (Or.inl ⟨rfl, fun w9 hw1 => by go_simp⟩) ?_
  simp only [Act.put, List.setIfInBounds_toArray, List.set_cons_zero, List.set_cons_succ]
  obtain ⟨⟨t0, t1, t2, t3, t4⟩, u0, u1, u2, u3, u4⟩ := HZU.out.all
  have HB6 := hide (HZU.out.put m1)
  have FST := Fr.set5 V2 (W.heap.size + 2) 0 1 2 3 4 (.int .i64 m1.now) (.int .i64 m1.last) (.int .i64 m1.begun) (.slice m1.aa m1.A.length m1.ac) (.slice m1.ha m1.H.length m1.hc)
  have HST := hide FST
  have HS6 : Hid (BoxM (((((V2.setCell ⟨W.heap.size + 2, 0, none⟩ (.int .i64 m1.now)).setCell ⟨W.heap.size + 2, 1, none⟩ (.int .i64 m1.last)).setCell ⟨W.heap.size + 2, 2, none⟩ (.int .i64 m1.begun)).setCell ⟨W.heap.size + 2, 3, none⟩ (.slice m1.aa m1.A.length m1.ac)).setCell ⟨W.heap.size + 2, 4, none⟩ (.slice m1.ha m1.H.length m1.hc)) gx m1 ∧ BoxP (((((V2.setCell ⟨W.heap.size + 2, 0, none⟩ (.int .i64 m1.now)).setCell ⟨W.heap.size + 2, 1, none⟩ (.int .i64 m1.last)).setCell ⟨W.heap.size + 2, 2, none⟩ (.int .i64 m1.begun)).setCell ⟨W.heap.size + 2, 3, none⟩ (.slice m1.aa m1.A.length m1.ac)).setCell ⟨W.heap.size + 2, 4, none⟩ (.slice m1.ha m1.H.length m1.hc)) (W.heap.size + 1) o) := hide (by
    exact ⟨HS2.out.1.fr FST (fun h => hg6 h), HS2.out.2.fr FST (fun h => by have h : W.heap.size + 1 = W.heap.size + 2 := h; omega)⟩)
  clear hS FST
  refine wpAnyK_one (i := 9) (by kernel_rfl) rfl rfl ?_
  go_simp
  refine ⟨HS6.out, ?_⟩
  refine wpAnyK_one (i := 10) (by kernel_rfl) rfl rfl ?_
  go_simp
  refine ⟨HS6.out, ?_⟩
  refine wpAnyK_done (by kernel_rfl) ?_ _
  go_wp2
  exact bodyPost_ret (results_m2 Try.results11 _ _ (W.heap.size + 2) HB6.out rfl) rfl ⟨m1, _, _, _, rfl, HM3.out.fin HEX.out.2.2 (HFN.out _ (by omega)) HE10.out HF0.out HST.out, HP3.out⟩
set_option maxHeartbeats 16000000 in
theorem step_commit {w0 W : World} {bs mb j q N D : Nat} {F : Nat → Option Obj} {E0 : Nat → Prop} {s : St} {m : Dm} (h : M3 w0 bs mb F E0 N D s m W) (hp : PB j q N D s m) (hbs : w0.heap.size ≤ bs) (o : OpR) (hj : j ≤ 1048575) (hq : q + o.kn ≤ 1048576) (ht : In64 o.txn) (hK : StrsIn (fun k => k < w0.heap.size) w0 o.ka o.K) (hkn : o.K.length = o.kn) (hkc : o.ka = none → o.kc = 0) (hk : o.kind = 2) : Calls Try.prog 11 #[.pointer (some ⟨mb, 0, none⟩), m.agg, .agg #[.int .i64 o.kind, .int .i64 o.txn, .slice o.ka o.kn o.kc, .int .i64 o.n]] W fun e W' => StepP w0 bs mb F E0 (j + 1) (q + o.kn) e W' := by
  have hT := three_boxes W m o
  obtain ⟨W2, hW2⟩ : ∃ W2, W2 = ((W.alloc (.cells #[.int .i64 m.now, .int .i64 m.last, .int .i64 m.begun, .slice m.aa m.A.length m.ac, .slice m.ha m.H.length m.hc] 29)).alloc (.cells #[.int .i64 o.kind, .int .i64 o.txn, .slice o.ka o.kn o.kc, .int .i64 o.n] 33)).alloc (.cells #[.int .i64 0, .int .i64 0, .int .i64 0, .slice none 0 0, .slice none 0 0] 29) := ⟨_, rfl⟩
  rw [← hW2] at hT
  have HW2 := hide hW2
  have hM := h.boxes hT.f
  obtain ⟨E, hEE⟩ : ∃ E : Nat → Prop, E = (fun k => E0 k ∨ (W.heap.size ≤ k ∧ k < W2.heap.size)) := ⟨_, rfl⟩
  have HE0 : Hid (∀ k, E0 k → E k) := hide (fun k hk => by rw [hEE]; exact .inl hk)
  have HF0 : Hid (∀ k o, F k = some o → E0 k) := hide (fun k o ho => (h.held ho).1)
  have HFN : Hid (∀ k, W.heap.size ≤ k → F k = none) := hide (fun k hk => by
    cases hF : F k with
    | none => rfl
    | some o => have := h.lt (h.held hF).1; omega)
  rw [← hEE] at hM
  have hE4 : E W.heap.size := by rw [hEE]; exact .inr ⟨Nat.le_refl _, by have := hT.l; omega⟩
  have hE5 : E (W.heap.size + 1) := by rw [hEE]; exact .inr ⟨by omega, by have := hT.l; omega⟩
  have hE6 : E (W.heap.size + 2) := by rw [hEE]; exact .inr ⟨by omega, by have := hT.l; omega⟩
  have HI := hide h.inv
  have HP := hide hp
  have HM := hide hM
  have HT := hide hT
  have HE := hide (⟨hE4, hE5, hE6⟩ : E W.heap.size ∧ E (W.heap.size + 1) ∧ E (W.heap.size + 2))
  have hA : m.A.length ≤ 1048576 := by have := hp.a; omega
  have hH : m.H.length ≤ 1048576 := by have := hp.h; omega
  have HKB : Hid (∀ x, (x ∈ m.A ∨ x ∈ m.H) → x.K.length ≤ 1048576) := hide (fun x hx => by have := hp.k x hx; omega)
  have hN : N ≤ 2199023255552 := by have := hp.n; have h2 : j * 2097152 ≤ 1048575 * 2097152 := Nat.mul_le_mul_right _ hj; omega
  have hbg : s.begun ≤ 9000000000000000000 := by have := hp.b; omega
  obtain ⟨⟨c0, c1, c2, c3, c4⟩, y0, y1, y2, y3, y4⟩ := hT.b.all
  obtain ⟨p0, p1, p2, p3⟩ := hT.p.cells
  obtain ⟨⟨d0, d1, d2, d3, d4⟩, z0, z1, z2, z3, z4⟩ := hT.z.all
  have HS2 := hide hT.l
  have HHK := hide hK
  clear hW2 h hM hT hp hEE hE4 hE5 hE6 hK
  unfold Dm.agg
  rw [hk] at p0
  have hl0 : 0 ≤ m.last := by rw [HP.out.pi.last]; exact HI.out.l0
  have hl1 : m.last ≤ 1099511627776 := by rw [HP.out.pi.last]; exact HI.out.l1
  clear hk
  have HC1 := hide (HM.out.check o.txn ht)
  go_enter Try.func11, Try.ntmps11
  go_wp2_with (rw [← HW2.out]; clear HW2)
  refine HC1.out.mono ?_
  rintro e V1 ⟨rfl, hM1, f1⟩
  have HC2 := hide (hM1.dcheck hA hH HKB.out o.txn hl0 hl1)
  unfold Dm.agg at HC2
  have hb1 := HT.out.b.fr f1 (fun h => h)
  have hp1 := HT.out.p.fr f1 (fun h => h)
  have hz1 := HT.out.z.fr f1 (fun h => h)
  have hs1 := f1.size
  clear c0 c1 c2 c3 c4 p0 p1 p2 p3 d0 d1 d2 d3 d4 y0 y1 y2 y3 y4 z0 z1 z2 z3 z4 HC1 f1 hM1
  obtain ⟨⟨c0, c1, c2, c3, c4⟩, _⟩ := hb1.all
  obtain ⟨p0, p1, p2, p3⟩ := hp1.cells
  go_wp2_with fail
  refine HC2.out.mono ?_
  rintro e V2 ⟨a, b, rfl, hch, hM2, f2⟩
  have HCH := hide hch
  have hck := HP.out.pi.chk HI.out hch
  simp only [hck]
  have HC3 := hide (hM2.dcommit hA hH HKB.out o.txn hl0 hl1)
  unfold Dm.agg at HC3
  have hb2 := hb1.fr f2 (fun h => h)
  have hp2 := hp1.fr f2 (fun h => h)
  have hz2 := hz1.fr f2 (fun h => h)
  have hs2 := f2.size
  clear c0 c1 c2 c3 c4 p0 p1 p2 p3 HC2 f2 hM2 hb1 hp1 hz1 hch
  obtain ⟨⟨c0, c1, c2, c3, c4⟩, _⟩ := hb2.all
  obtain ⟨p0, p1, p2, p3⟩ := hp2.cells
  go_wp2_with fail
  refine HC3.out.mono ?_
  rintro e V3 ⟨a', b', m1, hch', f3, hM3, hcase⟩
  obtain ⟨ha', hb'⟩ : a' = a ∧ b' = b := by
    have h1 := HP.out.pi.chk HI.out hch'
    rw [hck] at h1
    injection h1 with h1 h2
    exact ⟨h1.symm, h2.symm⟩
  subst ha' hb'
  obtain ⟨st, hst, hcc⟩ : ∃ st, (e = .returned (.tuple #[m1.agg, .int .i64 st, .int .i64 b'])) ∧ (st = a' ∧ ((b' ≠ 0 ∧ b' ≠ 120 ∧ m1 = m) ∨ (∃ (i : Nat) (x : Rw) (aa : Option Addr) (ac : Nat), First m o.txn i x ∧ ((((b' = 0 ∧ x.K = []) ∨ b' = 120) ∧ m1 = { m with aa := aa, ac := ac, A := erased m i }) ∨ (b' = 0 ∧ x.K ≠ [] ∧ ∃ (ha : Option Addr) (hc : Nat), m1 = { m with last := a', aa := aa, ac := ac, A := erased m i, ha := ha, hc := hc, H := m.H ++ [⟨o.txn, a', x.ka, x.kn, x.kc, x.K⟩] }))))) := by
    rcases hcase with ⟨r1, r2, r3, r4⟩ | ⟨r1, r2⟩
    · refine ⟨0, r3, ?_, .inl ⟨r1, r2, r4⟩⟩
      rcases hch' with ⟨_, q, _⟩ | ⟨i, x, _, ⟨_, _, q⟩ | ⟨_, _, _, q⟩ | ⟨_, _, ⟨_, q, _⟩ | ⟨_, _, q⟩⟩⟩
      · exact q.symm
      · exact absurd q r1
      · exact absurd q r2
      · exact q.symm
      · exact absurd q r1
    · exact ⟨a', r1, rfl, .inr r2⟩
  obtain ⟨rfl, hcc⟩ := hcc
  subst hst
  unfold Dm.agg
  obtain ⟨V4, hV4⟩ : ∃ V4, V4 = V3.alloc (.cells #[.int .i64 m1.now, .int .i64 m1.last, .int .i64 m1.begun, .slice m1.aa m1.A.length m1.ac, .slice m1.ha m1.H.length m1.hc] 29) := ⟨_, rfl⟩
  have f4 : Fr V3 V4 (fun _ => False) := by rw [hV4]; exact Fr.alloc V3 _ _
  have hbx : BoxM V4 V3.heap.size m1 := by rw [hV4]; exact heap_alloc_new V3 _
  have hs3 := f3.size
  have hs4 := f4.size
  have hxl := hbx.lt
  have hM4 := hM3.boxes f4
  have HC4 := hide (hM4.commit o.txn ht hbg (fun x hx => by have := HP.out.kn _ _ hx; omega) (by have := HP.out.d; omega))
  have hp4 := (hp2.fr f3 (fun h => h)).fr f4 (fun h => h)
  have hz4 := (hz2.fr f3 (fun h => h)).fr f4 (fun h => h)
  have HV4 := hide hV4
  have HCC := hide hcc
  clear c0 c1 c2 c3 c4 p0 p1 p2 p3 HC3 f3 f4 hM3 hM4 hb2 hp2 hz2 hV4 hcase hcc hch'
  obtain ⟨p0, p1, p2, p3⟩ := hp4.cells
  obtain ⟨⟨x0, x1, x2, x3, x4⟩, _⟩ := hbx.all
  go_wp2_with (rw [← HV4.out]; clear HV4)
  refine HC4.out.mono ?_
  intro e V5 hcm
  obtain ⟨rfl, f5, N', D', s', hM5, hP5⟩ := HP.out.commit (W := V4) (W' := V5) HI.out o.kn (by omega) HCH.out HCC.out hcm
  have hzE : E (W.heap.size + 2) := HE.out.2.2
  have hb5 := hbx.fr f5 (fun h => h (.inr ⟨Nat.le_refl _, hxl⟩))
  have hz5 := hz4.fr f5 (fun h => h (.inl hzE))
  have HM5 := hide hM5
  have HP5 := hide hP5
  clear p0 p1 p2 p3 x0 x1 x2 x3 x4 HC4 hbx hp4 hz4 f5 hM5 hP5 hcm
  obtain ⟨⟨x0, x1, x2, x3, x4⟩, _⟩ := hb5.all
  obtain ⟨⟨t0, t1, t2, t3, t4⟩, u0, u1, u2, u3, u4⟩ := hz5.all
  have HB6 := hide (hz5.put m1)
  have HST := hide (Fr.set5 V5 (W.heap.size + 2) 0 1 2 3 4 (.int .i64 m1.now) (.int .i64 m1.last) (.int .i64 m1.begun) (.slice m1.aa m1.A.length m1.ac) (.slice m1.ha m1.H.length m1.hc))
  clear hb5 hz5
  go_wp2
  exact bodyPost_ret (results_m2 Try.results11 _ _ (W.heap.size + 2) HB6.out rfl) rfl ⟨m1, s', N', D', rfl, HM5.out.fin (.inl hzE) (HFN.out _ (by omega)) (fun k hk => .inl (HE0.out k hk)) HF0.out HST.out, HP5.out⟩
set_option maxHeartbeats 16000000 in
theorem step_abort {w0 W : World} {bs mb j q N D : Nat} {F : Nat → Option Obj} {E0 : Nat → Prop} {s : St} {m : Dm} (h : M3 w0 bs mb F E0 N D s m W) (hp : PB j q N D s m) (hbs : w0.heap.size ≤ bs) (o : OpR) (hj : j ≤ 1048575) (hq : q + o.kn ≤ 1048576) (ht : In64 o.txn) (hK : StrsIn (fun k => k < w0.heap.size) w0 o.ka o.K) (hkn : o.K.length = o.kn) (hkc : o.ka = none → o.kc = 0) (hk : o.kind = 3) : Calls Try.prog 11 #[.pointer (some ⟨mb, 0, none⟩), m.agg, .agg #[.int .i64 o.kind, .int .i64 o.txn, .slice o.ka o.kn o.kc, .int .i64 o.n]] W fun e W' => StepP w0 bs mb F E0 (j + 1) (q + o.kn) e W' := by
  have hT := three_boxes W m o
  obtain ⟨W2, hW2⟩ : ∃ W2, W2 = ((W.alloc (.cells #[.int .i64 m.now, .int .i64 m.last, .int .i64 m.begun, .slice m.aa m.A.length m.ac, .slice m.ha m.H.length m.hc] 29)).alloc (.cells #[.int .i64 o.kind, .int .i64 o.txn, .slice o.ka o.kn o.kc, .int .i64 o.n] 33)).alloc (.cells #[.int .i64 0, .int .i64 0, .int .i64 0, .slice none 0 0, .slice none 0 0] 29) := ⟨_, rfl⟩
  rw [← hW2] at hT
  have HW2 := hide hW2
  have hM := h.boxes hT.f
  obtain ⟨E, hEE⟩ : ∃ E : Nat → Prop, E = (fun k => E0 k ∨ (W.heap.size ≤ k ∧ k < W2.heap.size)) := ⟨_, rfl⟩
  have HE0 : Hid (∀ k, E0 k → E k) := hide (fun k hk => by rw [hEE]; exact .inl hk)
  have HF0 : Hid (∀ k o, F k = some o → E0 k) := hide (fun k o ho => (h.held ho).1)
  have HFN : Hid (∀ k, W.heap.size ≤ k → F k = none) := hide (fun k hk => by
    cases hF : F k with
    | none => rfl
    | some o => have := h.lt (h.held hF).1; omega)
  rw [← hEE] at hM
  have hE4 : E W.heap.size := by rw [hEE]; exact .inr ⟨Nat.le_refl _, by have := hT.l; omega⟩
  have hE5 : E (W.heap.size + 1) := by rw [hEE]; exact .inr ⟨by omega, by have := hT.l; omega⟩
  have hE6 : E (W.heap.size + 2) := by rw [hEE]; exact .inr ⟨by omega, by have := hT.l; omega⟩
  have HI := hide h.inv
  have HP := hide hp
  have HM := hide hM
  have HT := hide hT
  have HE := hide (⟨hE4, hE5, hE6⟩ : E W.heap.size ∧ E (W.heap.size + 1) ∧ E (W.heap.size + 2))
  have hA : m.A.length ≤ 1048576 := by have := hp.a; omega
  have hH : m.H.length ≤ 1048576 := by have := hp.h; omega
  have HKB : Hid (∀ x, (x ∈ m.A ∨ x ∈ m.H) → x.K.length ≤ 1048576) := hide (fun x hx => by have := hp.k x hx; omega)
  have hN : N ≤ 2199023255552 := by have := hp.n; have h2 : j * 2097152 ≤ 1048575 * 2097152 := Nat.mul_le_mul_right _ hj; omega
  have hbg : s.begun ≤ 9000000000000000000 := by have := hp.b; omega
  obtain ⟨⟨c0, c1, c2, c3, c4⟩, y0, y1, y2, y3, y4⟩ := hT.b.all
  obtain ⟨p0, p1, p2, p3⟩ := hT.p.cells
  obtain ⟨⟨d0, d1, d2, d3, d4⟩, z0, z1, z2, z3, z4⟩ := hT.z.all
  have HS2 := hide hT.l
  have HHK := hide hK
  clear hW2 h hM hT hp hEE hE4 hE5 hE6 hK
  unfold Dm.agg
  rw [hk] at p0
  clear hk
  have HC1 := hide (HM.out.dwithout hA o.txn)
  unfold Dm.agg at HC1
  go_enter Try.func11, Try.ntmps11
  go_wp2_with (rw [← HW2.out]; clear HW2)
  refine HC1.out.mono ?_
  rintro e V ⟨m1, hM1, f1, hcase⟩
  obtain ⟨cd, rfl, hcd⟩ : ∃ cd : Int, e = .returned (.tuple #[.agg #[.int .i64 m1.now, .int .i64 m1.last, .int .i64 m1.begun, .slice m1.aa m1.A.length m1.ac, .slice m1.ha m1.H.length m1.hc], .int .i64 cd]) ∧ (((∀ x ∈ m.A, x.id ≠ o.txn) ∧ m1 = m ∧ cd = 70) ∨ (∃ (i : Nat) (x : Rw) (a : Option Addr) (c : Nat), First m o.txn i x ∧ m1 = { m with aa := a, ac := c, A := erased m i } ∧ cd = 0)) := by
    rcases hcase with ⟨r1, r2, r3⟩ | ⟨i, x, a, c, r1, r2, r3⟩
    · exact ⟨70, r3, .inl ⟨r1, r2, rfl⟩⟩
    · exact ⟨0, r3, .inr ⟨i, x, a, c, r1, r2, rfl⟩⟩
  have HCD := hide hcd
  clear hcase hcd
  obtain ⟨V1, hV1⟩ : ∃ V1, V1 = V.alloc (.cells #[.int .i64 m1.now, .int .i64 m1.last, .int .i64 m1.begun, .slice m1.aa m1.A.length m1.ac, .slice m1.ha m1.H.length m1.hc] 29) := ⟨_, rfl⟩
  have fV1 : Fr V V1 (fun _ => False) := by rw [hV1]; exact Fr.alloc V _ _
  have hbx : BoxM V1 V.heap.size m1 := by rw [hV1]; exact heap_alloc_new V _
  have hxl := hbx.lt
  have hM2 := hM1.boxes fV1
  have hpV := (HT.out.p.fr f1 (fun h => h)).fr fV1 (fun h => h)
  have hzV := (HT.out.z.fr f1 (fun h => h)).fr fV1 (fun h => h)
  have hsV : W2.heap.size ≤ V.heap.size := f1.size
  have hl2 := HT.out.l
  obtain ⟨gx, hgx⟩ : ∃ gx, gx = V.heap.size := ⟨_, rfl⟩
  have HV1 := hide hV1
  have fD := Fr.drew V1 (fun _ => False)
  have HMU := hide (hM2.fr fD)
  have HXU := hide (hbx.fr fD (fun h => h))
  have HPU := hide (hpV.fr fD (fun h => h))
  have HZU := hide (hzV.fr fD (fun h => h))
  have hEx : (fun k => E k ∨ (V.heap.size ≤ k ∧ k < V1.heap.size)) V.heap.size := .inr ⟨Nat.le_refl _, hxl⟩
  have hE5 : (fun k => E k ∨ (V.heap.size ≤ k ∧ k < V1.heap.size)) (W.heap.size + 1) := .inl HE.out.2.1
  have hE6 : (fun k => E k ∨ (V.heap.size ≤ k ∧ k < V1.heap.size)) (W.heap.size + 2) := .inl HE.out.2.2
  obtain ⟨E1, hE1⟩ : ∃ E1 : Nat → Prop, E1 = (fun k => E k ∨ (V.heap.size ≤ k ∧ k < V1.heap.size)) := ⟨_, rfl⟩
  rw [← hE1] at HMU
  have HE10 : Hid (∀ k, E0 k → E1 k) := hide (fun k hk => by rw [hE1]; exact .inl (HE0.out k hk))
  have HEX : Hid (E1 gx ∧ E1 (W.heap.size + 1) ∧ E1 (W.heap.size + 2)) := hide (by rw [hE1, hgx]; exact ⟨hEx, hE5, hE6⟩)
  have hg6 : gx ≠ W.heap.size + 2 := by omega
  rw [← hgx] at HXU
  clear c0 c1 c2 c3 c4 p0 p1 p2 p3 d0 d1 d2 d3 d4 y0 y1 y2 y3 y4 z0 z1 z2 z3 z4 HC1 f1 fV1 hM1 hM2 hbx hxl hpV hzV hV1 hEx hE5 hE6 hE1 fD
  go_wp2_with (rw [← HV1.out]; clear HV1)
  rw [← hgx]
  refine wp_region_K (fun _ => true) (fun U : World => BoxM U gx m1 ∧ BoxP U (W.heap.size + 1) o) (by kernel_rfl) ?_
  generalize V1.drew = U at *
  have hS : (fun V : World => BoxM V gx m1 ∧ BoxP V (W.heap.size + 1) o) U := ⟨HXU.out, HPU.out⟩
  clear hgx
  refine wpAnyK_takeTo 0 (some 127) (.agg #[.int .i64 m1.now, .int .i64 m1.last, .int .i64 m1.begun, .slice m1.aa m1.A.length m1.ac, .slice m1.ha m1.H.length m1.hc]) [7, 8] rfl rfl (by kernel_rfl) (by kernel_rfl) (by kernel_rfl) (by kernel_rfl) (fun _ _ _ h => h) hS (Or.inl ⟨rfl, fun w9 hw1 => by obtain ⟨hwa, hwb⟩ := hw1; obtain ⟨s0, s1, s2, s3, s4⟩ := hwa.cells; obtain ⟨n0, n1, n2, n3⟩ := hwb.cells; go_simp⟩) ?_
  simp only [Act.put, List.setIfInBounds_toArray, List.set_cons_zero, List.set_cons_succ]
  refine wpAnyK_takeTo 1 (some 128) (.pointer (some ⟨mb, 0, none⟩)) [4, 6, 7, 8] rfl rfl (by kernel_rfl) (by kernel_rfl) (by kernel_rfl) (by kernel_rfl) (fun _ _ _ h => h) hS (Or.inl ⟨rfl, fun w9 hw1 => by obtain ⟨hwa, hwb⟩ := hw1; obtain ⟨s0, s1, s2, s3, s4⟩ := hwa.cells; obtain ⟨n0, n1, n2, n3⟩ := hwb.cells; go_simp⟩) ?_
  simp only [Act.put, List.setIfInBounds_toArray, List.set_cons_zero, List.set_cons_succ]
  refine wpAnyK_takeTo 2 (some 129) (.pointer (some ⟨W.heap.size + 1, 1, none⟩)) [3, 4, 6, 7, 8] rfl rfl (by kernel_rfl) (by kernel_rfl) (by kernel_rfl) (by kernel_rfl) (fun _ _ _ h => h) hS (Or.inl ⟨rfl, fun w9 hw1 => by obtain ⟨hwa, hwb⟩ := hw1; obtain ⟨s0, s1, s2, s3, s4⟩ := hwa.cells; obtain ⟨n0, n1, n2, n3⟩ := hwb.cells; go_simp⟩) ?_
  simp only [Act.put, List.setIfInBounds_toArray, List.set_cons_zero, List.set_cons_succ]
  refine wpAnyK_takeTo 3 (some 130) (.int .i64 o.txn) [4, 6, 7, 8] rfl rfl (by kernel_rfl) (by kernel_rfl) (by kernel_rfl) (by kernel_rfl) (fun _ _ _ h => h) hS (Or.inl ⟨rfl, fun w9 hw1 => by obtain ⟨hwa, hwb⟩ := hw1; obtain ⟨s0, s1, s2, s3, s4⟩ := hwa.cells; obtain ⟨n0, n1, n2, n3⟩ := hwb.cells; go_simp⟩) ?_
  simp only [Act.put, List.setIfInBounds_toArray, List.set_cons_zero, List.set_cons_succ]
  refine wpAnyK_takeTo 5 (some 132) (.int .i64 cd) [6, 8] rfl rfl (by kernel_rfl) (by kernel_rfl) (by kernel_rfl) (by kernel_rfl) (fun _ _ _ h => h) hS (Or.inl ⟨rfl, fun w9 hw1 => by obtain ⟨hwa, hwb⟩ := hw1; obtain ⟨s0, s1, s2, s3, s4⟩ := hwa.cells; obtain ⟨n0, n1, n2, n3⟩ := hwb.cells; go_simp⟩) ?_
  simp only [Act.put, List.setIfInBounds_toArray, List.set_cons_zero, List.set_cons_succ]
  refine wpAnyK_one (i := 4) (by kernel_rfl) rfl rfl ?_
  refine wp_call_to (some 131) rfl 21 #[.pointer (some ⟨mb, 0, none⟩), .int .i64 o.txn] (by go_simp) (HMU.out.abort o.txn ht hbg) ?_
  intro e V2 hw
  obtain ⟨rfl, f2, s', hM3, hP3⟩ : e = .returned (.int .i64 cd) ∧ Fr U V2 (fun k => ¬ E1 k) ∧ ∃ s', M3 w0 bs mb F E1 N D s' m1 V2 ∧ PB (j + 1) (q + o.kn) N D s' m1 := by
    rcases HCD.out with ⟨r1, rfl, rfl⟩ | ⟨i, x, a, c, r1, rfl, rfl⟩
    · rcases hw with ⟨_, h1, h2⟩ | ⟨h1, _⟩
      · subst h2
        exact ⟨h1, Fr.refl _ _, s, HMU.out, HP.out.same o.kn⟩
      · exact absurd (HP.out.pi.none' r1) h1
    · obtain ⟨y, p1, _⟩ := HP.out.pi.found r1
      rcases hw with ⟨h1, _⟩ | ⟨h1, h2, s', h3, h4, h5⟩
      · rw [h1] at p1; cases p1
      · exact ⟨h2, h5, s', h3, HP.out.ended r1 h4 o.kn a c⟩
  have hS2 : (fun V : World => BoxM V gx m1 ∧ BoxP V (W.heap.size + 1) o) V2 := ⟨HXU.out.fr f2 (fun h => h HEX.out.1), HPU.out.fr f2 (fun h => h HEX.out.2.1)⟩
  have HZ2 := hide (HZU.out.fr f2 (fun h => h HEX.out.2.2))
  have HM3 := hide hM3
  have HP3 := hide hP3
  refine ⟨_, rfl, fun _ => hS2, ?_⟩
  simp only [Act.put, List.setIfInBounds_toArray, List.set_cons_zero, List.set_cons_succ]
  clear hS HZU hM3 hP3 f2 hw
  have hS := hS2
  have HS2 := hide hS2
  clear hS2
  have HZU := HZ2
  refine wpAnyK_takeTo 6 (some 133) (.bool true) [8] rfl rfl (by kernel_rfl) (by kernel_rfl) (by kernel_rfl) (by kernel_rfl) (fun _ _ _ h => h) hS (Or.inl ⟨rfl, fun w9 hw1 => by go_simp⟩) ?_
  simp only [Act.put, List.setIfInBounds_toArray, List.set_cons_zero, List.set_cons_succ]
  obtain ⟨⟨t0, t1, t2, t3, t4⟩, u0, u1, u2, u3, u4⟩ := HZU.out.all
  have HB6 := hide (HZU.out.put m1)
  have FST := Fr.set5 V2 (W.heap.size + 2) 0 1 2 3 4 (.int .i64 m1.now) (.int .i64 m1.last) (.int .i64 m1.begun) (.slice m1.aa m1.A.length m1.ac) (.slice m1.ha m1.H.length m1.hc)
  have HST := hide FST
  have HS6 : Hid (BoxM (((((V2.setCell ⟨W.heap.size + 2, 0, none⟩ (.int .i64 m1.now)).setCell ⟨W.heap.size + 2, 1, none⟩ (.int .i64 m1.last)).setCell ⟨W.heap.size + 2, 2, none⟩ (.int .i64 m1.begun)).setCell ⟨W.heap.size + 2, 3, none⟩ (.slice m1.aa m1.A.length m1.ac)).setCell ⟨W.heap.size + 2, 4, none⟩ (.slice m1.ha m1.H.length m1.hc)) gx m1 ∧ BoxP (((((V2.setCell ⟨W.heap.size + 2, 0, none⟩ (.int .i64 m1.now)).setCell ⟨W.heap.size + 2, 1, none⟩ (.int .i64 m1.last)).setCell ⟨W.heap.size + 2, 2, none⟩ (.int .i64 m1.begun)).setCell ⟨W.heap.size + 2, 3, none⟩ (.slice m1.aa m1.A.length m1.ac)).setCell ⟨W.heap.size + 2, 4, none⟩ (.slice m1.ha m1.H.length m1.hc)) (W.heap.size + 1) o) := hide (by
    exact ⟨HS2.out.1.fr FST (fun h => hg6 h), HS2.out.2.fr FST (fun h => by have h : W.heap.size + 1 = W.heap.size + 2 := h; omega)⟩)
  clear hS FST
  refine wpAnyK_one (i := 7) (by kernel_rfl) rfl rfl ?_
  go_simp
  refine ⟨HS6.out, ?_⟩
  refine wpAnyK_one (i := 8) (by kernel_rfl) rfl rfl ?_
  go_simp
  refine ⟨HS6.out, ?_⟩
  refine wpAnyK_done (by kernel_rfl) ?_ _
  go_wp2
  exact bodyPost_ret (results_m2 Try.results11 _ _ (W.heap.size + 2) HB6.out rfl) rfl ⟨m1, _, _, _, rfl, HM3.out.fin HEX.out.2.2 (HFN.out _ (by omega)) HE10.out HF0.out HST.out, HP3.out⟩
set_option maxHeartbeats 16000000 in
theorem step_tick {w0 W : World} {bs mb j q N D : Nat} {F : Nat → Option Obj} {E0 : Nat → Prop} {s : St} {m : Dm} (h : M3 w0 bs mb F E0 N D s m W) (hp : PB j q N D s m) (hbs : w0.heap.size ≤ bs) (o : OpR) (hj : j ≤ 1048575) (hq : q + o.kn ≤ 1048576) (ht : In64 o.txn) (hK : StrsIn (fun k => k < w0.heap.size) w0 o.ka o.K) (hkn : o.K.length = o.kn) (hkc : o.ka = none → o.kc = 0) (hk : o.kind = 4) : Calls Try.prog 11 #[.pointer (some ⟨mb, 0, none⟩), m.agg, .agg #[.int .i64 o.kind, .int .i64 o.txn, .slice o.ka o.kn o.kc, .int .i64 o.n]] W fun e W' => StepP w0 bs mb F E0 (j + 1) (q + o.kn) e W' := by
  have hT := three_boxes W m o
  obtain ⟨W2, hW2⟩ : ∃ W2, W2 = ((W.alloc (.cells #[.int .i64 m.now, .int .i64 m.last, .int .i64 m.begun, .slice m.aa m.A.length m.ac, .slice m.ha m.H.length m.hc] 29)).alloc (.cells #[.int .i64 o.kind, .int .i64 o.txn, .slice o.ka o.kn o.kc, .int .i64 o.n] 33)).alloc (.cells #[.int .i64 0, .int .i64 0, .int .i64 0, .slice none 0 0, .slice none 0 0] 29) := ⟨_, rfl⟩
  rw [← hW2] at hT
  have HW2 := hide hW2
  have hM := h.boxes hT.f
  obtain ⟨E, hEE⟩ : ∃ E : Nat → Prop, E = (fun k => E0 k ∨ (W.heap.size ≤ k ∧ k < W2.heap.size)) := ⟨_, rfl⟩
  have HE0 : Hid (∀ k, E0 k → E k) := hide (fun k hk => by rw [hEE]; exact .inl hk)
  have HF0 : Hid (∀ k o, F k = some o → E0 k) := hide (fun k o ho => (h.held ho).1)
  have HFN : Hid (∀ k, W.heap.size ≤ k → F k = none) := hide (fun k hk => by
    cases hF : F k with
    | none => rfl
    | some o => have := h.lt (h.held hF).1; omega)
  rw [← hEE] at hM
  have hE4 : E W.heap.size := by rw [hEE]; exact .inr ⟨Nat.le_refl _, by have := hT.l; omega⟩
  have hE5 : E (W.heap.size + 1) := by rw [hEE]; exact .inr ⟨by omega, by have := hT.l; omega⟩
  have hE6 : E (W.heap.size + 2) := by rw [hEE]; exact .inr ⟨by omega, by have := hT.l; omega⟩
  have HI := hide h.inv
  have HP := hide hp
  have HM := hide hM
  have HT := hide hT
  have HE := hide (⟨hE4, hE5, hE6⟩ : E W.heap.size ∧ E (W.heap.size + 1) ∧ E (W.heap.size + 2))
  have hA : m.A.length ≤ 1048576 := by have := hp.a; omega
  have hH : m.H.length ≤ 1048576 := by have := hp.h; omega
  have HKB : Hid (∀ x, (x ∈ m.A ∨ x ∈ m.H) → x.K.length ≤ 1048576) := hide (fun x hx => by have := hp.k x hx; omega)
  have hN : N ≤ 2199023255552 := by have := hp.n; have h2 : j * 2097152 ≤ 1048575 * 2097152 := Nat.mul_le_mul_right _ hj; omega
  have hbg : s.begun ≤ 9000000000000000000 := by have := hp.b; omega
  obtain ⟨⟨c0, c1, c2, c3, c4⟩, y0, y1, y2, y3, y4⟩ := hT.b.all
  obtain ⟨p0, p1, p2, p3⟩ := hT.p.cells
  obtain ⟨⟨d0, d1, d2, d3, d4⟩, z0, z1, z2, z3, z4⟩ := hT.z.all
  have HS2 := hide hT.l
  have HHK := hide hK
  clear hW2 h hM hT hp hEE hE4 hE5 hE6 hK
  unfold Dm.agg
  rw [hk] at p0
  have hn0 : 0 ≤ m.now := by rw [HP.out.pi.now]; exact HI.out.n0
  have hn1 : m.now ≤ 1099511627776 := by rw [HP.out.pi.now]; exact HI.out.n1
  clear hk
  go_enter Try.func11, Try.ntmps11
  go_wp2_with (rw [← HW2.out]; clear HW2)
  refine wp_region_K (fun i => decide (i ≠ 5)) (fun U : World => U = W2.drew) (by kernel_rfl) ?_
  have fD := Fr.drew W2 (fun _ => False)
  have HMU := hide (HM.out.fr fD)
  have HBU := hide (HT.out.b.fr fD (fun h => h))
  have HPU := hide (HT.out.p.fr fD (fun h => h))
  have HZU := hide (HT.out.z.fr fD (fun h => h))
  generalize W2.drew = U0 at *
  obtain ⟨_, _, _, r3⟩ := HPU.out.cells
  have hS : (fun V : World => V = U0) U0 := rfl
  clear fD c0 c1 c2 c3 c4 p0 p1 p2 p3 d0 d1 d2 d3 d4 y0 y1 y2 y3 y4 z0 z1 z2 z3 z4
  refine wpAnyK_takeTo 0 (some 136) (.pointer (some ⟨mb, 0, none⟩)) [1, 2, 5] rfl rfl (by kernel_rfl) (by kernel_rfl) (by kernel_rfl) (by kernel_rfl) (fun _ _ _ h => h) hS (Or.inl ⟨rfl, fun w9 hw1 => by have hw1 : w9 = U0 := hw1; subst hw1; go_simp⟩) ?_
  simp only [Act.put, List.setIfInBounds_toArray, List.set_cons_zero, List.set_cons_succ]
  refine wpAnyK_takeTo 1 (some 137) (.pointer (some ⟨mb, 0, none⟩)) [2, 5] rfl rfl (by kernel_rfl) (by kernel_rfl) (by kernel_rfl) (by kernel_rfl) (fun _ _ _ h => h) hS (Or.inl ⟨rfl, fun w9 hw1 => by have hw1 : w9 = U0 := hw1; subst hw1; go_simp⟩) ?_
  simp only [Act.put, List.setIfInBounds_toArray, List.set_cons_zero, List.set_cons_succ]
  refine wpAnyK_takeTo 2 (some 138) (.pointer (some ⟨mb, 0, none⟩)) [5] rfl rfl (by kernel_rfl) (by kernel_rfl) (by kernel_rfl) (by kernel_rfl) (fun _ _ _ h => h) hS (Or.inl ⟨rfl, fun w9 hw1 => by have hw1 : w9 = U0 := hw1; subst hw1; go_simp⟩) ?_
  simp only [Act.put, List.setIfInBounds_toArray, List.set_cons_zero, List.set_cons_succ]
  refine wpAnyK_takeTo 3 (some 139) (.pointer (some ⟨W.heap.size + 1, 3, none⟩)) [4, 5] rfl rfl (by kernel_rfl) (by kernel_rfl) (by kernel_rfl) (by kernel_rfl) (fun _ _ _ h => h) hS (Or.inl ⟨rfl, fun w9 hw1 => by have hw1 : w9 = U0 := hw1; subst hw1; go_simp⟩) ?_
  simp only [Act.put, List.setIfInBounds_toArray, List.set_cons_zero, List.set_cons_succ]
  refine wpAnyK_takeTo 4 (some 140) (.int .i64 o.n) [5] rfl rfl (by kernel_rfl) (by kernel_rfl) (by kernel_rfl) (by kernel_rfl) (fun _ _ _ h => h) hS (Or.inl ⟨rfl, fun w9 hw1 => by have hw1 : w9 = U0 := hw1; subst hw1; go_simp⟩) ?_
  simp only [Act.put, List.setIfInBounds_toArray, List.set_cons_zero, List.set_cons_succ]
  refine wpAnyK_one (i := 5) (by kernel_rfl) rfl rfl ?_
  refine wp_call_to (some 141) rfl 19 #[.pointer (some ⟨mb, 0, none⟩), .int .i64 o.n] (by go_simp) (HMU.out.tick o.n) ?_
  rintro e V ⟨rfl, hMV, fV⟩
  refine ⟨_, rfl, fun h => by simp at h, ?_⟩
  simp only [Act.put, List.setIfInBounds_toArray, List.set_cons_zero, List.set_cons_succ]
  refine wpAnyK_done (by kernel_rfl) ?_ _
  have hbV := HBU.out.fr fV (fun h => h HE.out.1)
  have hpV := HPU.out.fr fV (fun h => h HE.out.2.1)
  have hzV := HZU.out.fr fV (fun h => h HE.out.2.2)
  obtain ⟨⟨c0, c1, c2, c3, c4⟩, _⟩ := hbV.all
  obtain ⟨p0, p1, p2, p3⟩ := hpV.cells
  have HC2 := hide (hMV.dtick2 o.n hn0 hn1)
  unfold Dm.agg at HC2
  clear hS fV hMV r3
  go_wp2_with fail
  refine HC2.out.mono ?_
  rintro e V2 ⟨rfl, hM2, f2⟩
  obtain ⟨m1, hm1⟩ : ∃ m1 : Dm, m1 = { m with now := tickP m.now o.n } := ⟨_, rfl⟩
  rw [← hm1] at hM2
  have HM1E := hide hm1
  have hz2 := hzV.fr f2 (fun h => h)
  obtain ⟨⟨t0, t1, t2, t3, t4⟩, u0, u1, u2, u3, u4⟩ := hz2.all
  have HB6 := hide (hz2.put m1)
  have HST := hide (Fr.set5 V2 (W.heap.size + 2) 0 1 2 3 4 (.int .i64 m1.now) (.int .i64 m1.last) (.int .i64 m1.begun) (.slice m1.aa m1.A.length m1.ac) (.slice m1.ha m1.H.length m1.hc))
  have hq0 : tickP m.now o.n = m1.now := by rw [hm1]
  have hq1 : m.last = m1.last := by rw [hm1]
  have hq2 : m.begun = m1.begun := by rw [hm1]
  have hq3 : (Value.slice m.aa m.A.length m.ac) = .slice m1.aa m1.A.length m1.ac := by rw [hm1]
  have hq4 : (Value.slice m.ha m.H.length m.hc) = .slice m1.ha m1.H.length m1.hc := by rw [hm1]
  have HM2 := hide hM2
  clear c0 c1 c2 c3 c4 p0 p1 p2 p3 HC2 hbV hpV hzV hz2 hM2 f2 hm1
  have hnow : tickP s.now o.n = m1.now := by rw [← hq0, HP.out.pi.now]
  have HPE : Hid (PB (j + 1) (q + o.kn) N D { s with now := tickP s.now o.n } m1) := hide (by rw [HM1E.out, HP.out.pi.now]; exact HP.out.tick o.kn _)
  clear hnow
  dsimp only
  rw [hq0]
  rw [hq1, hq2, hq3, hq4]
  clear hq0 hq1 hq2 hq3 hq4
  go_wp2
  exact bodyPost_ret (results_m2 Try.results11 _ _ (W.heap.size + 2) HB6.out rfl) rfl ⟨m1, _, _, _, rfl, HM2.out.fin HE.out.2.2 (HFN.out _ (by omega)) HE0.out HF0.out HST.out, HPE.out⟩
set_option maxHeartbeats 16000000 in
theorem step_ask {w0 W : World} {bs mb j q N D : Nat} {F : Nat → Option Obj} {E0 : Nat → Prop} {s : St} {m : Dm} (h : M3 w0 bs mb F E0 N D s m W) (hp : PB j q N D s m) (hbs : w0.heap.size ≤ bs) (o : OpR) (hj : j ≤ 1048575) (hq : q + o.kn ≤ 1048576) (ht : In64 o.txn) (hK : StrsIn (fun k => k < w0.heap.size) w0 o.ka o.K) (hkn : o.K.length = o.kn) (hkc : o.ka = none → o.kc = 0) (hk : o.kind = 5) : Calls Try.prog 11 #[.pointer (some ⟨mb, 0, none⟩), m.agg, .agg #[.int .i64 o.kind, .int .i64 o.txn, .slice o.ka o.kn o.kc, .int .i64 o.n]] W fun e W' => StepP w0 bs mb F E0 (j + 1) (q + o.kn) e W' := by
  have hT := three_boxes W m o
  obtain ⟨W2, hW2⟩ : ∃ W2, W2 = ((W.alloc (.cells #[.int .i64 m.now, .int .i64 m.last, .int .i64 m.begun, .slice m.aa m.A.length m.ac, .slice m.ha m.H.length m.hc] 29)).alloc (.cells #[.int .i64 o.kind, .int .i64 o.txn, .slice o.ka o.kn o.kc, .int .i64 o.n] 33)).alloc (.cells #[.int .i64 0, .int .i64 0, .int .i64 0, .slice none 0 0, .slice none 0 0] 29) := ⟨_, rfl⟩
  rw [← hW2] at hT
  have HW2 := hide hW2
  have hM := h.boxes hT.f
  obtain ⟨E, hEE⟩ : ∃ E : Nat → Prop, E = (fun k => E0 k ∨ (W.heap.size ≤ k ∧ k < W2.heap.size)) := ⟨_, rfl⟩
  have HE0 : Hid (∀ k, E0 k → E k) := hide (fun k hk => by rw [hEE]; exact .inl hk)
  have HF0 : Hid (∀ k o, F k = some o → E0 k) := hide (fun k o ho => (h.held ho).1)
  have HFN : Hid (∀ k, W.heap.size ≤ k → F k = none) := hide (fun k hk => by
    cases hF : F k with
    | none => rfl
    | some o => have := h.lt (h.held hF).1; omega)
  rw [← hEE] at hM
  have hE4 : E W.heap.size := by rw [hEE]; exact .inr ⟨Nat.le_refl _, by have := hT.l; omega⟩
  have hE5 : E (W.heap.size + 1) := by rw [hEE]; exact .inr ⟨by omega, by have := hT.l; omega⟩
  have hE6 : E (W.heap.size + 2) := by rw [hEE]; exact .inr ⟨by omega, by have := hT.l; omega⟩
  have HI := hide h.inv
  have HP := hide hp
  have HM := hide hM
  have HT := hide hT
  have HE := hide (⟨hE4, hE5, hE6⟩ : E W.heap.size ∧ E (W.heap.size + 1) ∧ E (W.heap.size + 2))
  have hA : m.A.length ≤ 1048576 := by have := hp.a; omega
  have hH : m.H.length ≤ 1048576 := by have := hp.h; omega
  have HKB : Hid (∀ x, (x ∈ m.A ∨ x ∈ m.H) → x.K.length ≤ 1048576) := hide (fun x hx => by have := hp.k x hx; omega)
  have hN : N ≤ 2199023255552 := by have := hp.n; have h2 : j * 2097152 ≤ 1048575 * 2097152 := Nat.mul_le_mul_right _ hj; omega
  have hbg : s.begun ≤ 9000000000000000000 := by have := hp.b; omega
  obtain ⟨⟨c0, c1, c2, c3, c4⟩, y0, y1, y2, y3, y4⟩ := hT.b.all
  obtain ⟨p0, p1, p2, p3⟩ := hT.p.cells
  obtain ⟨⟨d0, d1, d2, d3, d4⟩, z0, z1, z2, z3, z4⟩ := hT.z.all
  have HS2 := hide hT.l
  have HHK := hide hK
  clear hW2 h hM hT hp hEE hE4 hE5 hE6 hK
  unfold Dm.agg
  rw [hk] at p0
  clear hk
  have HC1 := hide (HM.out.snap o.txn ht)
  have HC2 := hide (HM.out.dfind o.txn hA)
  unfold Dm.agg at HC2
  go_enter Try.func11, Try.ntmps11
  go_wp2_with (rw [← HW2.out]; clear HW2)
  refine HC1.out.mono ?_
  rintro e V ⟨hcase, rfl⟩
  rcases hcase with ⟨hno, rfl⟩ | ⟨y, hy, rfl⟩
  · have HNO := hide hno
    clear hno HC1
    go_wp2_with fail
    refine HC2.out.mono ?_
    rintro e V2 ⟨f2, ⟨i, x, hf, _⟩ | ⟨_, rfl⟩⟩
    · obtain ⟨y, q1, _⟩ := HP.out.pi.found hf
      rw [HNO.out] at q1
      cases q1
    have hb2 := HT.out.b.fr f2 (fun h => h)
    have hz2 := HT.out.z.fr f2 (fun h => h)
    have HM2 := hide (HM.out.fr f2)
    clear c0 c1 c2 c3 c4 p0 p1 p2 p3 d0 d1 d2 d3 d4 y0 y1 y2 y3 y4 z0 z1 z2 z3 z4 HC2 f2
    obtain ⟨⟨c0, c1, c2, c3, c4⟩, _⟩ := hb2.all
    obtain ⟨⟨t0, t1, t2, t3, t4⟩, u0, u1, u2, u3, u4⟩ := hz2.all
    have HB6 := hide (hz2.put m)
    have HST := hide (Fr.set5 V2 (W.heap.size + 2) 0 1 2 3 4 (.int .i64 m.now) (.int .i64 m.last) (.int .i64 m.begun) (.slice m.aa m.A.length m.ac) (.slice m.ha m.H.length m.hc))
    clear hb2 hz2
    go_wp2
    exact bodyPost_ret (results_m2 Try.results11 _ _ (W.heap.size + 2) HB6.out rfl) rfl ⟨m, s, N, D, rfl, HM2.out.fin HE.out.2.2 (HFN.out _ (by omega)) HE0.out HF0.out HST.out, HP.out.same o.kn⟩
  · have HY := hide hy
    clear hy HC1
    go_wp2_with fail
    refine HC2.out.mono ?_
    rintro e V2 ⟨f2, ⟨i, x, hf, rfl⟩ | ⟨hno, _⟩⟩
    rotate_left
    · have := HP.out.pi.none' hno
      rw [HY.out] at this
      cases this
    obtain ⟨y', q1, q2, q3⟩ := HP.out.pi.found hf
    rw [HY.out] at q1
    cases q1
    have hi0 : ¬ ((i : Int) < 0) := by omega
    have hi0b : decide ((i : Int) < 0) = false := by simp
    have hil : i < m.A.length := (List.getElem?_eq_some_iff.1 hf.1).1
    have fD := Fr.drew V2 (fun _ => False)
    have hfu := f2.two fD
    have HBU := hide (HT.out.b.fr hfu (fun h => h))
    have HZU := hide (HT.out.z.fr hfu (fun h => h))
    have HMU := hide (HM.out.fr hfu)
    obtain ⟨ga, hga, e1, hge⟩ : ∃ ga, m.aa = some ⟨ga, 0, none⟩ ∧ V2.drew.cell? ⟨ga, i * 3 + 1, none⟩ = some (.int .i64 x.st) ∧ ¬ E ga := by
      obtain ⟨X, hX⟩ := HMU.out
      obtain ⟨ga, g1, _, g2, _⟩ := RowW.at hX.2.2.1.1 hf.1
      refine ⟨ga, g1, g2, ?_⟩
      exact (hX.2.2.1.1.2.1 ga (by rw [g1]; rfl)).2
    have hg6 : ga ≠ W.heap.size + 2 := fun h => hge (by rw [h]; exact HE.out.2.2)
    rw [q2]
    clear c0 c1 c2 c3 c4 p0 p1 p2 p3 d0 d1 d2 d3 d4 y0 y1 y2 y3 y4 z0 z1 z2 z3 z4 HC2 f2 hf q2 q3 fD hfu hge
    go_wp2_with fail
    refine wp_region_K (fun _ => true) (fun U : World => AskS U W.heap.size m ga (i * 3 + 1) x.st) (by kernel_rfl) ?_
    generalize V2.drew = U at *
    have hS : (fun V : World => AskS V W.heap.size m ga (i * 3 + 1) x.st) U := ⟨HBU.out, e1⟩
    refine wpAnyK_takeTo 0 (some 168) (.agg #[.int .i64 m.now, .int .i64 m.last, .int .i64 m.begun, .slice m.aa m.A.length m.ac, .slice m.ha m.H.length m.hc]) [13, 14] rfl rfl (by kernel_rfl) (by kernel_rfl) (by kernel_rfl) (by kernel_rfl) (fun _ _ _ h => h) hS (Or.inl ⟨rfl, fun w9 hw1 => by obtain ⟨hwa, hwb⟩ := hw1; obtain ⟨s0, s1, s2, s3, s4⟩ := hwa.cells; clear hga; go_simp⟩) ?_
    simp only [Act.put, List.setIfInBounds_toArray, List.set_cons_zero, List.set_cons_succ]
    refine wpAnyK_takeTo 1 (some 169) (.int .i64 0) [2, 3, 4, 5, 6, 7, 8, 9, 10, 11, 12, 13, 14] rfl rfl (by kernel_rfl) (by kernel_rfl) (by kernel_rfl) (by kernel_rfl) (fun _ _ _ h => h) hS (Or.inl ⟨rfl, fun w9 hw1 => by obtain ⟨hwa, hwb⟩ := hw1; obtain ⟨s0, s1, s2, s3, s4⟩ := hwa.cells; clear hga; go_simp⟩) ?_
    simp only [Act.put, List.setIfInBounds_toArray, List.set_cons_zero, List.set_cons_succ]
    refine wpAnyK_takeTo 2 (some 170) (.bool true) [3, 4, 5, 6, 7, 8, 9, 10, 11, 12, 13, 14] rfl rfl (by kernel_rfl) (by kernel_rfl) (by kernel_rfl) (by kernel_rfl) (fun _ _ _ h => h) hS (Or.inl ⟨rfl, fun w9 hw1 => by obtain ⟨hwa, hwb⟩ := hw1; obtain ⟨s0, s1, s2, s3, s4⟩ := hwa.cells; clear hga; go_simp⟩) ?_
    simp only [Act.put, List.setIfInBounds_toArray, List.set_cons_zero, List.set_cons_succ]
    refine wpAnyK_takeTo 3 (some 171) (.bool true) [4, 5, 6, 7, 8, 9, 10, 11, 12, 13, 14] rfl rfl (by kernel_rfl) (by kernel_rfl) (by kernel_rfl) (by kernel_rfl) (fun _ _ _ h => h) hS (Or.inl ⟨rfl, fun w9 hw1 => by obtain ⟨hwa, hwb⟩ := hw1; obtain ⟨s0, s1, s2, s3, s4⟩ := hwa.cells; clear hga; go_simp⟩) ?_
    simp only [Act.put, List.setIfInBounds_toArray, List.set_cons_zero, List.set_cons_succ]
    refine wpAnyK_takeTo 4 (some 172) (.int .i64 x.st) [11, 12, 14] rfl rfl (by kernel_rfl) (by kernel_rfl) (by kernel_rfl) (by kernel_rfl) (fun _ _ _ h => h) hS (Or.inl ⟨rfl, fun w9 hw1 => by obtain ⟨hwa, hwb⟩ := hw1; obtain ⟨s0, s1, s2, s3, s4⟩ := hwa.cells; clear hga; go_simp⟩) ?_
    simp only [Act.put, List.setIfInBounds_toArray, List.set_cons_zero, List.set_cons_succ]
    refine wpAnyK_takeTo 5 (some 173) (.pointer (some ⟨W.heap.size, 3, none⟩)) [6, 8, 9, 10, 11, 12, 14] rfl rfl (by kernel_rfl) (by kernel_rfl) (by kernel_rfl) (by kernel_rfl) (fun _ _ _ h => h) hS (Or.inl ⟨rfl, fun w9 hw1 => by obtain ⟨hwa, hwb⟩ := hw1; obtain ⟨s0, s1, s2, s3, s4⟩ := hwa.cells; clear hga; go_simp⟩) ?_
    simp only [Act.put, List.setIfInBounds_toArray, List.set_cons_zero, List.set_cons_succ]
    refine wpAnyK_takeTo 6 (some 174) (.slice m.aa m.A.length m.ac) [8, 9, 10, 11, 12, 14] rfl rfl (by kernel_rfl) (by kernel_rfl) (by kernel_rfl) (by kernel_rfl) (fun _ _ _ h => h) hS (Or.inl ⟨rfl, fun w9 hw1 => by obtain ⟨hwa, hwb⟩ := hw1; obtain ⟨s0, s1, s2, s3, s4⟩ := hwa.cells; clear hga; go_simp⟩) ?_
    simp only [Act.put, List.setIfInBounds_toArray, List.set_cons_zero, List.set_cons_succ]
    refine wpAnyK_takeTo 7 (some 175) (.int .i64 (i : Int)) [8, 9, 10, 11, 12, 14] rfl rfl (by kernel_rfl) (by kernel_rfl) (by kernel_rfl) (by kernel_rfl) (fun _ _ _ h => h) hS (Or.inl ⟨rfl, fun w9 hw1 => by obtain ⟨hwa, hwb⟩ := hw1; obtain ⟨s0, s1, s2, s3, s4⟩ := hwa.cells; clear hga; go_simp⟩) ?_
    simp only [Act.put, List.setIfInBounds_toArray, List.set_cons_zero, List.set_cons_succ]
    refine wpAnyK_takeTo 8 (some 176) (.pointer (some ⟨ga, i * 3, none⟩)) [9, 10, 11, 12, 14] rfl rfl (by kernel_rfl) (by kernel_rfl) (by kernel_rfl) (by kernel_rfl) (fun _ _ _ h => h) hS (Or.inl ⟨rfl, fun w9 hw1 => by obtain ⟨hwa, hwb⟩ := hw1; obtain ⟨s0, s1, s2, s3, s4⟩ := hwa.cells; go_simp⟩) ?_
    simp only [Act.put, List.setIfInBounds_toArray, List.set_cons_zero, List.set_cons_succ]
    refine wpAnyK_takeTo 9 (some 177) (.pointer (some ⟨ga, i * 3 + 1, none⟩)) [10, 11, 12, 14] rfl rfl (by kernel_rfl) (by kernel_rfl) (by kernel_rfl) (by kernel_rfl) (fun _ _ _ h => h) hS (Or.inl ⟨rfl, fun w9 hw1 => by obtain ⟨hwa, hwb⟩ := hw1; obtain ⟨s0, s1, s2, s3, s4⟩ := hwa.cells; go_simp⟩) ?_
    simp only [Act.put, List.setIfInBounds_toArray, List.set_cons_zero, List.set_cons_succ]
    refine wpAnyK_takeTo 10 (some 178) (.int .i64 x.st) [11, 12, 14] rfl rfl (by kernel_rfl) (by kernel_rfl) (by kernel_rfl) (by kernel_rfl) (fun _ _ _ h => h) hS (Or.inl ⟨rfl, fun w9 hw1 => by obtain ⟨hwa, hwb⟩ := hw1; obtain ⟨s0, s1, s2, s3, s4⟩ := hwa.cells; go_simp⟩) ?_
    simp only [Act.put, List.setIfInBounds_toArray, List.set_cons_zero, List.set_cons_succ]
    refine wpAnyK_takeTo 11 (some 179) (.bool true) [12, 14] rfl rfl (by kernel_rfl) (by kernel_rfl) (by kernel_rfl) (by kernel_rfl) (fun _ _ _ h => h) hS (Or.inl ⟨rfl, fun w9 hw1 => by obtain ⟨hwa, hwb⟩ := hw1; obtain ⟨s0, s1, s2, s3, s4⟩ := hwa.cells; go_simp⟩) ?_
    simp only [Act.put, List.setIfInBounds_toArray, List.set_cons_zero, List.set_cons_succ]
    refine wpAnyK_takeTo 12 (some 180) (.bool true) [14] rfl rfl (by kernel_rfl) (by kernel_rfl) (by kernel_rfl) (by kernel_rfl) (fun _ _ _ h => h) hS (Or.inl ⟨rfl, fun w9 hw1 => by obtain ⟨hwa, hwb⟩ := hw1; obtain ⟨s0, s1, s2, s3, s4⟩ := hwa.cells; go_simp⟩) ?_
    simp only [Act.put, List.setIfInBounds_toArray, List.set_cons_zero, List.set_cons_succ]
    have HS0 := hide hS
    obtain ⟨⟨t0, t1, t2, t3, t4⟩, u0, u1, u2, u3, u4⟩ := HZU.out.all
    have HB6 := hide (HZU.out.put m)
    have FST := Fr.set5 U (W.heap.size + 2) 0 1 2 3 4 (.int .i64 m.now) (.int .i64 m.last) (.int .i64 m.begun) (.slice m.aa m.A.length m.ac) (.slice m.ha m.H.length m.hc)
    have HST := hide FST
    have HS6 : Hid (AskS (((((U.setCell ⟨W.heap.size + 2, 0, none⟩ (.int .i64 m.now)).setCell ⟨W.heap.size + 2, 1, none⟩ (.int .i64 m.last)).setCell ⟨W.heap.size + 2, 2, none⟩ (.int .i64 m.begun)).setCell ⟨W.heap.size + 2, 3, none⟩ (.slice m.aa m.A.length m.ac)).setCell ⟨W.heap.size + 2, 4, none⟩ (.slice m.ha m.H.length m.hc)) W.heap.size m ga (i * 3 + 1) x.st) := hide (by
      exact ⟨HS0.out.1.fr FST (fun h => by have h : W.heap.size = W.heap.size + 2 := h; omega), FST.cell (fun h => hg6 h) HS0.out.2⟩)
    clear hS FST hga
    refine wpAnyK_one (i := 13) (by kernel_rfl) rfl rfl ?_
    go_simp
    refine ⟨HS6.out, ?_⟩
    refine wpAnyK_one (i := 14) (by kernel_rfl) rfl rfl ?_
    go_simp
    refine ⟨HS6.out, ?_⟩
    refine wpAnyK_done (by kernel_rfl) ?_ _
    go_wp2
    exact bodyPost_ret (results_m2 Try.results11 _ _ (W.heap.size + 2) HB6.out rfl) rfl ⟨m, s, N, D, rfl, HMU.out.fin HE.out.2.2 (HFN.out _ (by omega)) HE0.out HF0.out HST.out, HP.out.same o.kn⟩
theorem step_any {w0 W : World} {bs mb j q N D : Nat} {F : Nat → Option Obj} {E0 : Nat → Prop} {s : St} {m : Dm} (h : M3 w0 bs mb F E0 N D s m W) (hp : PB j q N D s m) (hbs : w0.heap.size ≤ bs) (o : OpR) (hj : j ≤ 1048575) (hq : q + o.kn ≤ 1048576) (ht : In64 o.txn) (hK : StrsIn (fun k => k < w0.heap.size) w0 o.ka o.K) (hkn : o.K.length = o.kn) (hkc : o.ka = none → o.kc = 0) : Calls Try.prog 11 #[.pointer (some ⟨mb, 0, none⟩), m.agg, .agg #[.int .i64 o.kind, .int .i64 o.txn, .slice o.ka o.kn o.kc, .int .i64 o.n]] W fun e W' => StepP w0 bs mb F E0 (j + 1) (q + o.kn) e W' := by
  by_cases h0 : o.kind = 0
  · exact step_begin h hp hbs o hj hq ht hK hkn hkc h0
  by_cases h1 : o.kind = 1
  · exact step_write h hp hbs o hj hq ht hK hkn hkc h1
  by_cases h2 : o.kind = 2
  · exact step_commit h hp hbs o hj hq ht hK hkn hkc h2
  by_cases h3 : o.kind = 3
  · exact step_abort h hp hbs o hj hq ht hK hkn hkc h3
  by_cases h4 : o.kind = 4
  · exact step_tick h hp hbs o hj hq ht hK hkn hkc h4
  by_cases h5 : o.kind = 5
  · exact step_ask h hp hbs o hj hq ht hK hkn hkc h5
  exact step_other h hp hbs o hj hq ht hK hkn hkc ⟨h0, h1, h2, h3, h4, h5⟩
end Go.Proofs.Ytiooacaplajidaa
