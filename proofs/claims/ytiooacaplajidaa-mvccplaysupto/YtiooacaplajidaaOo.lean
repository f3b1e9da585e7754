/- The walk of MvccPlays. -/
import Derived.Test.YtiooacaplajidaaOm
import Derived.Test.YtiooacaplajidaaMo
import Derived.Test.YtiooacaplajidaaMw
namespace Go.Proofs.Ytiooacaplajidaa
open Go.RowKit Go.Maps
set_option maxRecDepth 100000
set_option linter.unusedVariables false
set_option linter.unusedSimpArgs false

/-- The box that holds the document's manager. -/
def Fb (gb : Nat) (m : Dm) : Nat → Option Obj := fun k => if k = gb then some (.cells #[.int .i64 m.now, .int .i64 m.last, .int .i64 m.begun, .slice m.aa m.A.length m.ac, .slice m.ha m.H.length m.hc] 29) else none
theorem Fb.at (gb : Nat) (m : Dm) : Fb gb m gb = some (.cells #[.int .i64 m.now, .int .i64 m.last, .int .i64 m.begun, .slice m.aa m.A.length m.ac, .slice m.ha m.H.length m.hc] 29) := by unfold Fb; rw [if_pos rfl]
theorem Fb.inv {gb k : Nat} {m : Dm} {o : Obj} (h : Fb gb m k = some o) : k = gb ∧ o = (.cells #[.int .i64 m.now, .int .i64 m.last, .int .i64 m.begun, .slice m.aa m.A.length m.ac, .slice m.ha m.H.length m.hc] 29) := by
  unfold Fb at h
  split at h
  · rename_i he; cases h; exact ⟨he, rfl⟩
  · cases h
def E1 (gb : Nat) : Nat → Prop := fun k => k = gb
theorem M3.boxM {w0 W : World} {bs mb gb N D : Nat} {s : St} {m m1 : Dm} (h : M3 w0 bs mb (Fb gb m1) (E1 gb) N D s m W) : BoxM W gb m1 := (h.held (Fb.at gb m1)).2
theorem M3.row {w0 W : World} {bs mb N D : Nat} {F : Nat → Option Obj} {E : Nat → Prop} {s : St} {m : Dm} (h : M3 w0 bs mb F E N D s m W) : RowW 49 (fun _ => True) W (.slice m.aa m.A.length m.ac) m.A := by
  obtain ⟨X, h⟩ := h
  exact h.2.2.1.1.imp (fun _ _ _ => trivial)
theorem start {w W2 V V1 : World} {bs mb gb : Nat} {l g : Int} (h : MG W2 bs mb 0 0 (s0 (lastP l) (begunP g) bs)) (hs : bs ≤ W2.heap.size) (f0 : Fr w W2 (fun k => bs ≤ k)) (hd : DM (fun _ => True) V (dnew l g)) (f1 : Fr W2 V (fun _ => False)) (hV1 : V1 = V.alloc (.cells #[.int .i64 (dnew l g).now, .int .i64 (dnew l g).last, .int .i64 (dnew l g).begun, .slice (dnew l g).aa (dnew l g).A.length (dnew l g).ac, .slice (dnew l g).ha (dnew l g).H.length (dnew l g).hc] 29)) (hgb : gb = V.heap.size) : M3 w bs mb (Fb gb (dnew l g)) (E1 gb) 0 0 (s0 (lastP l) (begunP g) bs) (dnew l g) V1 ∧ PB 0 0 0 0 (s0 (lastP l) (begunP g) bs) (dnew l g) := by
  have hd2 : DM (fun k => ¬ (bs ≤ k ∧ k < W2.heap.size) ∧ ¬ False) V (dnew l g) := ⟨⟨World.ownsRow_nil V 0 49 3, fun k hk => (by cases hk), fun x hx => (by cases hx)⟩, ⟨World.ownsRow_nil V 0 89 3, fun k hk => (by cases hk), fun x hx => (by cases hx)⟩⟩
  have hM : M3 w bs mb (fun _ => none) (fun _ => False) 0 0 (s0 (lastP l) (begunP g) bs) (dnew l g) V := ⟨fun k => bs ≤ k ∧ k < W2.heap.size, (h.x.imp (fun k h1 h2 _ => ⟨h1, h2⟩)).fr f1 (fun _ _ _ h => h), fun k hk => ⟨hk.1, fun h => h, by have := hk.2; have := f1.size; omega⟩, hd2, f0.over f1, fun k hk => hk.elim, Nat.le_trans hs f1.size, fun k o ho => by cases ho⟩
  have fA : Fr V V1 (fun _ => False) := by rw [hV1]; exact Fr.alloc V _ _
  have hb : BoxM V1 gb (dnew l g) := by rw [hV1, hgb]; exact heap_alloc_new V _
  have hlt := hb.lt
  have hM1 := hM.boxes fA
  refine ⟨((hM1.re (F' := Fb gb (dnew l g)) (Fr.refl _ _) (fun k o ho => ?_)).bare (fun k hk => ?_) (fun k o ho => (Fb.inv ho).1)), ?_⟩
  · obtain ⟨rfl, rfl⟩ := Fb.inv ho
    exact ⟨.inr ⟨by omega, hlt⟩, hb⟩
  · have hk : k = gb := hk
    exact .inr ⟨by omega, by omega⟩
  · refine ⟨⟨rfl, rfl, rfl, List.Pairwise.nil, fun x hx => (by cases hx), fun t y hy => (by cases hy), fun x hx => (by rcases hx with hx | hx <;> cases hx), fun k v _ hv => (by cases hv), fun d hd => (by cases hd), fun d hd => (by cases hd)⟩, Nat.zero_le _, Nat.le_refl _, fun t y hy => (by cases hy), Nat.le_refl _, Nat.le_refl _, fun x hx => (by rcases hx with hx | hx <;> cases hx), ?_⟩
    show begunP g ≤ _
    unfold begunP
    omega
theorem PB.ids {j q N D : Nat} {s : St} {m : Dm} (h : PB j q N D s m) (hi : Inv s) (hj : j ≤ 1048576) : ∀ x ∈ m.A, In64 x.id := fun x hx => by
  obtain ⟨y, h1, _⟩ := h.pi.a1 x hx
  obtain ⟨h2, h3, _⟩ := hi.ac _ _ h1
  have := hi.o0
  have := h.b
  exact ⟨by omega, by omega⟩
set_option maxHeartbeats 32000000 in
theorem plays_walk (HAC : Hid ActiveNone) {w : World} (l g : Int) (a : Option Addr) (n c : Nat) (O : List OpR) (hL : OpsIn w a O) (hn : O.length = n) (hnb : n ≤ 1048576) (hq : qs O O.length ≤ 1048576) :
    Calls Try.prog 3 #[.int .i64 l, .int .i64 g, .slice a n c] w fun x w' => x = .returned (.bool true) ∧ Fr w w' (fun _ => False) := by
  have HL := hide hL
  have HN := hide hn
  have HQ := hide hq
  clear hL hn hq
  go_enter Try.func3, Try.ntmps3
  go_wp2_with fail
  refine (awake_any HAC w).mono ?_
  rintro e W1 ⟨rfl, f1⟩
  have F1 := hide f1
  clear f1
  go_wp2_with fail
  refine (mg_new W1 l g).mono ?_
  rintro e W2 ⟨rfl, h2, f2⟩
  obtain ⟨mb, hmb⟩ : ∃ mb, W1.heap.size + 2 = mb := ⟨_, rfl⟩
  obtain ⟨bs, hbs⟩ : ∃ bs, W1.heap.size = bs := ⟨_, rfl⟩
  rw [hmb] at h2 ⊢
  rw [hbs] at h2
  have HBS : Hid (w.heap.size ≤ bs) := hide (by have := F1.out.size; omega)
  have H2 := hide h2
  have HF2 : Hid (Fr w W2 (fun k => bs ≤ k)) := hide ((F1.out.two f2).mono (fun _ _ h => h.elim))
  have HS2 : Hid (bs ≤ W2.heap.size) := hide (by have := f2.size; omega)
  clear h2 f2 hmb hbs F1
  have HNW := hide (new_ref (fun _ => True) W2 l g)
  go_wp2_with fail
  refine HNW.out.mono ?_
  rintro e V ⟨rfl, hd, f3⟩
  obtain ⟨V1, hV1⟩ : ∃ V1, V1 = V.alloc (.cells #[.int .i64 (dnew l g).now, .int .i64 (dnew l g).last, .int .i64 (dnew l g).begun, .slice (dnew l g).aa (dnew l g).A.length (dnew l g).ac, .slice (dnew l g).ha (dnew l g).H.length (dnew l g).hc] 29) := ⟨_, rfl⟩
  obtain ⟨gb, hgb⟩ : ∃ gb, gb = V.heap.size := ⟨_, rfl⟩
  obtain ⟨hM0, hP0⟩ := start H2.out HS2.out HF2.out hd f3 hV1 hgb
  have HM0 := hide hM0
  have HP0 := hide hP0
  have HV1 := hide hV1
  clear hd f3 hV1 hM0 hP0 HNW H2 HF2 HS2
  unfold Dm.agg
  generalize hm0 : dnew l g = m0 at *
  generalize hs0 : s0 (lastP l) (begunP g) bs = s00 at *
  clear hm0 hs0
  have HEN : Hid (∀ k, k < w.heap.size → ¬ (bs ≤ k)) := hide (fun k hk h => by have := HBS.out; omega)
  go_wp2_with (rw [← HV1.out]; clear HV1)
  rw [← hgb]
  clear hgb
  go_loopw [9, 24] (fun ok ix wr => ∃ (j : Nat) (s : St) (m : Dm) (N D : Nat), j ≤ n ∧ ix = .int .i64 (j : Int) ∧ ok = .bool true ∧ M3 w bs mb (Fb gb m) (E1 gb) N D s m wr ∧ PB j (qs O j) N D s m) (fun _ ix _ => n - (intOf ix).toNat)
  case atStart => exact ⟨0, s00, m0, 0, 0, Nat.zero_le _, rfl, rfl, HM0.out, HP0.out⟩
  case round =>
    rename World => W
    obtain ⟨j, s, m, N, D, hj, rfl, rfl, hM, hP⟩ := hrel
    have HM := hide hM
    have HP := hide hP
    clear hM hP HM0 HP0
    rcases Nat.lt_or_ge j n with hlt | hge
    · obtain ⟨o, ho⟩ : ∃ o, O[j]? = some o := ⟨_, List.getElem?_eq_getElem (by rw [HN.out]; exact hlt)⟩
      obtain ⟨go, off, hg, hgl, e0, e1, e2, e3, ok1, ok2, ok3, ok4⟩ := HL.out j o ho
      have hgn : ¬ (bs ≤ go) := by have := HBS.out; omega
      have hF := HM.out.frame
      have d0 := hF.cell hgn e0
      have d1 := hF.cell hgn e1
      have d2 := hF.cell hgn e2
      have d3 := hF.cell hgn e3
      subst hg
      have hqs := qs_succ ho
      have hql : qs O (j + 1) ≤ 1048576 := Nat.le_trans (qs_le O (j + 1)) HQ.out
      have hbm := HM.out.boxM
      obtain ⟨Wo, hWo⟩ : ∃ Wo, Wo = W.alloc (.cells #[.int .i64 o.kind, .int .i64 o.txn, .slice o.ka o.kn o.kc, .int .i64 o.n] 33) := ⟨_, rfl⟩
      have fo : Fr W Wo (fun _ => False) := by rw [hWo]; exact Fr.alloc W _ _
      have hbo : BoxP Wo W.heap.size o := by rw [hWo]; exact heap_alloc_new W _
      have HST := hide (step_any (HM.out.fr fo) HP.out HBS.out o (by omega) (by rw [← hqs]; exact hql) ok3 ok2 ok1 ok4)
      unfold Dm.agg at HST
      rw [← hqs] at HST
      obtain ⟨⟨c0, c1, c2, c3, c4⟩, _⟩ := (hbm.fr fo (fun h => h)).all
      obtain ⟨p0, p1, p2, p3⟩ := hbo.cells
      have HWo := hide hWo
      clear ho hgl e0 e1 e2 e3 ok1 ok2 ok3 ok4 hgn hF hqs hbm hWo fo hbo
      go_wp2_with (rw [← HWo.out]; clear HWo)
      refine HST.out.mono ?_
      rintro e V ⟨m1, s1, N1, D1, rfl, hM1, hP1⟩
      have hb1 := hM1.boxM
      obtain ⟨V2, hV2⟩ : ∃ V2, V2 = ((((V.setCell ⟨gb, 0, none⟩ (.int .i64 m1.now)).setCell ⟨gb, 1, none⟩ (.int .i64 m1.last)).setCell ⟨gb, 2, none⟩ (.int .i64 m1.begun)).setCell ⟨gb, 3, none⟩ (.slice m1.aa m1.A.length m1.ac)).setCell ⟨gb, 4, none⟩ (.slice m1.ha m1.H.length m1.hc) := ⟨_, rfl⟩
      have fV2 : Fr V V2 (fun k => k = gb) := by rw [hV2]; exact Fr.set5 _ _ 0 1 2 3 4 _ _ _ _ _
      have hb2 : BoxM V2 gb m1 := by rw [hV2]; exact hb1.put m1
      have hM2 : M3 w bs mb (Fb gb m1) (E1 gb) N1 D1 s1 m1 V2 := hM1.re fV2 (fun k o ho => by obtain ⟨rfl, rfl⟩ := Fb.inv ho; exact ⟨rfl, hb2⟩)
      have fD := Fr.drew V2 (fun _ => False)
      have HMU := hide (hM2.fr fD)
      have HP1 := hide hP1
      have HV2 := hide hV2
      have hnw : s1.now = m1.now := hP1.pi.now.symm
      have hlw : s1.last = m1.last := hP1.pi.last.symm
      clear c0 c1 c2 c3 c4 p0 p1 p2 p3 d0 d1 d2 d3 HST fV2 hb2 hM2 fD hV2 hP1 HM HP
      obtain ⟨⟨c0, c1, c2, c3, c4⟩, y0, y1, y2, y3, y4⟩ := hb1.all
      clear hM1 hb1
      unfold Dm.agg
      go_wp2_with (rw [← HV2.out]; clear HV2)
      refine wp_region_K (fun _ => true) (fun U : World => U = V2.drew) (by kernel_rfl) ?_
      generalize V2.drew = U at *
      have hS : (fun V : World => V = U) U := rfl
      clear c0 c1 c2 c3 c4 y0 y1 y2 y3 y4
      obtain ⟨⟨c0, c1, c2, c3, c4⟩, _⟩ := HMU.out.boxM.all
      have hnowc := HMU.out.now
      have hlastc := HMU.out.last
      rw [hnw] at hnowc
      rw [hlw] at hlastc
      have HNC := hide hnowc
      have HLC := hide hlastc
      clear hnw hlw hnowc hlastc
      refine wpAnyK_takeTo 0 (some 35) (.bool true) [1, 2, 3, 4, 5, 6, 7, 8, 9, 10, 11, 12, 13, 14, 15, 16, 17, 18, 19] rfl rfl (by kernel_rfl) (by kernel_rfl) (by kernel_rfl) (by kernel_rfl) (fun _ _ _ h => h) hS (Or.inl ⟨rfl, fun w9 hw1 => by have hw1 : w9 = U := hw1; subst hw1; go_simp⟩) ?_
      simp only [Act.put, List.setIfInBounds_toArray, List.set_cons_zero, List.set_cons_succ]
      refine wpAnyK_takeTo 1 (some 36) (.bool false) [2, 3, 4, 5, 6, 7, 8, 9, 10, 11, 12, 13, 14, 15, 16, 17, 18, 19] rfl rfl (by kernel_rfl) (by kernel_rfl) (by kernel_rfl) (by kernel_rfl) (fun _ _ _ h => h) hS (Or.inl ⟨rfl, fun w9 hw1 => by have hw1 : w9 = U := hw1; subst hw1; go_simp⟩) ?_
      simp only [Act.put, List.setIfInBounds_toArray, List.set_cons_zero, List.set_cons_succ]
      refine wpAnyK_takeTo 2 (some 37) (.bool false) [3, 4, 5, 6, 7, 8, 9, 10, 11, 12, 13, 14, 15, 16, 17, 18, 19] rfl rfl (by kernel_rfl) (by kernel_rfl) (by kernel_rfl) (by kernel_rfl) (fun _ _ _ h => h) hS (Or.inl ⟨rfl, fun w9 hw1 => by have hw1 : w9 = U := hw1; subst hw1; go_simp⟩) ?_
      simp only [Act.put, List.setIfInBounds_toArray, List.set_cons_zero, List.set_cons_succ]
      refine wpAnyK_takeTo 3 (some 38) (.pointer (some ⟨mb, 0, none⟩)) [4, 5, 6, 9, 10, 11, 12, 13, 14, 15, 16, 17, 18, 19] rfl rfl (by kernel_rfl) (by kernel_rfl) (by kernel_rfl) (by kernel_rfl) (fun _ _ _ h => h) hS (Or.inl ⟨rfl, fun w9 hw1 => by have hw1 : w9 = U := hw1; subst hw1; go_simp⟩) ?_
      simp only [Act.put, List.setIfInBounds_toArray, List.set_cons_zero, List.set_cons_succ]
      refine wpAnyK_takeTo 4 (some 39) (.pointer (some ⟨mb, 0, none⟩)) [5, 6, 9, 10, 11, 12, 13, 14, 15, 16, 17, 18, 19] rfl rfl (by kernel_rfl) (by kernel_rfl) (by kernel_rfl) (by kernel_rfl) (fun _ _ _ h => h) hS (Or.inl ⟨rfl, fun w9 hw1 => by have hw1 : w9 = U := hw1; subst hw1; go_simp⟩) ?_
      simp only [Act.put, List.setIfInBounds_toArray, List.set_cons_zero, List.set_cons_succ]
      refine wpAnyK_takeTo 5 (some 40) (.pointer (some ⟨mb, 0, none⟩)) [6, 9, 10, 11, 12, 13, 14, 15, 16, 17, 18, 19] rfl rfl (by kernel_rfl) (by kernel_rfl) (by kernel_rfl) (by kernel_rfl) (fun _ _ _ h => h) hS (Or.inl ⟨rfl, fun w9 hw1 => by have hw1 : w9 = U := hw1; subst hw1; go_simp⟩) ?_
      simp only [Act.put, List.setIfInBounds_toArray, List.set_cons_zero, List.set_cons_succ]
      refine wpAnyK_takeTo 7 (some 42) (.pointer (some ⟨gb, 0, none⟩)) [8, 9, 10, 11, 12, 13, 14, 15, 16, 17, 18, 19] rfl rfl (by kernel_rfl) (by kernel_rfl) (by kernel_rfl) (by kernel_rfl) (fun _ _ _ h => h) hS (Or.inl ⟨rfl, fun w9 hw1 => by have hw1 : w9 = U := hw1; subst hw1; go_simp⟩) ?_
      simp only [Act.put, List.setIfInBounds_toArray, List.set_cons_zero, List.set_cons_succ]
      refine wpAnyK_takeTo 8 (some 43) (.int .i64 m1.now) [9, 10, 11, 12, 13, 14, 15, 16, 17, 18, 19] rfl rfl (by kernel_rfl) (by kernel_rfl) (by kernel_rfl) (by kernel_rfl) (fun _ _ _ h => h) hS (Or.inl ⟨rfl, fun w9 hw1 => by have hw1 : w9 = U := hw1; subst hw1; go_simp⟩) ?_
      simp only [Act.put, List.setIfInBounds_toArray, List.set_cons_zero, List.set_cons_succ]
      refine wpAnyK_one (i := 6) (by kernel_rfl) rfl rfl ?_
      refine wp_call_to (some 41) rfl 12 #[.pointer (some ⟨mb, 0, none⟩)] (by go_simp) HNC.out ?_
      rintro e U2 ⟨rfl, hU2⟩
      refine ⟨_, rfl, fun _ => hU2, ?_⟩
      rw [hU2]
      clear hU2
      simp only [Act.put, List.setIfInBounds_toArray, List.set_cons_zero, List.set_cons_succ]
      refine wpAnyK_takeTo 9 (some 44) (.bool false) [10, 11, 12, 13, 14, 15, 16, 17, 18, 19] rfl rfl (by kernel_rfl) (by kernel_rfl) (by kernel_rfl) (by kernel_rfl) (fun _ _ _ h => h) hS (Or.inl ⟨rfl, fun w9 hw1 => by have hw1 : w9 = U := hw1; subst hw1; go_simp⟩) ?_
      simp only [Act.put, List.setIfInBounds_toArray, List.set_cons_zero, List.set_cons_succ]
      refine wpAnyK_takeTo 10 (some 45) (.bool false) [11, 12, 13, 14, 15, 16, 17, 18, 19] rfl rfl (by kernel_rfl) (by kernel_rfl) (by kernel_rfl) (by kernel_rfl) (fun _ _ _ h => h) hS (Or.inl ⟨rfl, fun w9 hw1 => by have hw1 : w9 = U := hw1; subst hw1; go_simp⟩) ?_
      simp only [Act.put, List.setIfInBounds_toArray, List.set_cons_zero, List.set_cons_succ]
      refine wpAnyK_takeTo 11 (some 46) (.bool false) [12, 13, 14, 15, 16, 17, 18, 19] rfl rfl (by kernel_rfl) (by kernel_rfl) (by kernel_rfl) (by kernel_rfl) (fun _ _ _ h => h) hS (Or.inl ⟨rfl, fun w9 hw1 => by have hw1 : w9 = U := hw1; subst hw1; go_simp⟩) ?_
      simp only [Act.put, List.setIfInBounds_toArray, List.set_cons_zero, List.set_cons_succ]
      refine wpAnyK_takeTo 12 (some 47) (.pointer (some ⟨mb, 0, none⟩)) [13, 14, 15, 18, 19] rfl rfl (by kernel_rfl) (by kernel_rfl) (by kernel_rfl) (by kernel_rfl) (fun _ _ _ h => h) hS (Or.inl ⟨rfl, fun w9 hw1 => by have hw1 : w9 = U := hw1; subst hw1; go_simp⟩) ?_
      simp only [Act.put, List.setIfInBounds_toArray, List.set_cons_zero, List.set_cons_succ]
      refine wpAnyK_takeTo 13 (some 48) (.pointer (some ⟨mb, 0, none⟩)) [14, 15, 18, 19] rfl rfl (by kernel_rfl) (by kernel_rfl) (by kernel_rfl) (by kernel_rfl) (fun _ _ _ h => h) hS (Or.inl ⟨rfl, fun w9 hw1 => by have hw1 : w9 = U := hw1; subst hw1; go_simp⟩) ?_
      simp only [Act.put, List.setIfInBounds_toArray, List.set_cons_zero, List.set_cons_succ]
      refine wpAnyK_takeTo 14 (some 49) (.pointer (some ⟨mb, 0, none⟩)) [15, 18, 19] rfl rfl (by kernel_rfl) (by kernel_rfl) (by kernel_rfl) (by kernel_rfl) (fun _ _ _ h => h) hS (Or.inl ⟨rfl, fun w9 hw1 => by have hw1 : w9 = U := hw1; subst hw1; go_simp⟩) ?_
      simp only [Act.put, List.setIfInBounds_toArray, List.set_cons_zero, List.set_cons_succ]
      refine wpAnyK_takeTo 16 (some 51) (.pointer (some ⟨gb, 1, none⟩)) [17, 18, 19] rfl rfl (by kernel_rfl) (by kernel_rfl) (by kernel_rfl) (by kernel_rfl) (fun _ _ _ h => h) hS (Or.inl ⟨rfl, fun w9 hw1 => by have hw1 : w9 = U := hw1; subst hw1; go_simp⟩) ?_
      simp only [Act.put, List.setIfInBounds_toArray, List.set_cons_zero, List.set_cons_succ]
      refine wpAnyK_takeTo 17 (some 52) (.int .i64 m1.last) [18, 19] rfl rfl (by kernel_rfl) (by kernel_rfl) (by kernel_rfl) (by kernel_rfl) (fun _ _ _ h => h) hS (Or.inl ⟨rfl, fun w9 hw1 => by have hw1 : w9 = U := hw1; subst hw1; go_simp⟩) ?_
      simp only [Act.put, List.setIfInBounds_toArray, List.set_cons_zero, List.set_cons_succ]
      refine wpAnyK_one (i := 15) (by kernel_rfl) rfl rfl ?_
      refine wp_call_to (some 50) rfl 13 #[.pointer (some ⟨mb, 0, none⟩)] (by go_simp) HLC.out ?_
      rintro e U3 ⟨rfl, hU2⟩
      refine ⟨_, rfl, fun _ => hU2, ?_⟩
      rw [hU2]
      clear hU2
      simp only [Act.put, List.setIfInBounds_toArray, List.set_cons_zero, List.set_cons_succ]
      refine wpAnyK_takeTo 18 (some 53) (.bool false) [19] rfl rfl (by kernel_rfl) (by kernel_rfl) (by kernel_rfl) (by kernel_rfl) (fun _ _ _ h => h) hS (Or.inl ⟨rfl, fun w9 hw1 => by have hw1 : w9 = U := hw1; subst hw1; go_simp⟩) ?_
      simp only [Act.put, List.setIfInBounds_toArray, List.set_cons_zero, List.set_cons_succ]
      refine wpAnyK_takeTo 19 (some 54) (.bool false) [] rfl rfl (by kernel_rfl) (by kernel_rfl) (by kernel_rfl) (by kernel_rfl) (fun _ _ _ h => h) hS (Or.inl ⟨rfl, fun w9 hw1 => by have hw1 : w9 = U := hw1; subst hw1; go_simp⟩) ?_
      simp only [Act.put, List.setIfInBounds_toArray, List.set_cons_zero, List.set_cons_succ]
      refine wpAnyK_done (by kernel_rfl) ?_ _
      have HAV := hide (HMU.out.active HP1.out.pi (HP1.out.ids HMU.out.inv (by omega)) (by have := HP1.out.n; have h2 : (j + 1) * 2097152 ≤ 1048576 * 2097152 := Nat.mul_le_mul_right _ (by omega); omega))
      clear hS HNC HLC
      go_wp2_with fail
      refine HAV.out.mono ?_
      rintro e V4 ⟨al, cl, rfl, hol, f4⟩
      have HM4 := hide (HMU.out.fr f4)
      have HOL := hide hol
      clear c0 c1 c2 c3 c4 HAV hol f4 HMU
      obtain ⟨⟨c0, c1, c2, c3, c4⟩, _⟩ := HM4.out.boxM.all
      have HAN := hide (show m1.A.length ≤ 1048576 by have := HP1.out.a; omega)
      generalize hnA : m1.A.length = nA at *
      have HNA := hide hnA
      clear hnA
      go_wp2_with fail
      go_loopw [65] (fun ix wr => ∃ (k : Nat), k ≤ nA ∧ ix = .int .i64 (k : Int) ∧ Fr V4 wr (fun _ => False)) (fun ix _ => nA - (intOf ix).toNat)
      case atStart => exact ⟨0, Nat.zero_le _, rfl, Fr.refl _ _⟩
      case round =>
        rename World => Y
        obtain ⟨k, hk, rfl, hfy⟩ := hrel
        have HFY := hide hfy
        clear hfy
        have hk2 : nA ≤ 1048576 := HAN.out
        rcases Nat.lt_or_ge k nA with hlk | hgk
        · obtain ⟨x, hx⟩ : ∃ x, m1.A[k]? = some x := ⟨_, List.getElem?_eq_getElem (by rw [HNA.out]; exact hlk)⟩
          have D := Fr.drew Y (fun _ => False)
          have hU := HFY.out.two D
          obtain ⟨gl, hgl, r0⟩ := row_cell (ownsRow_fr HOL.out hU (fun _ _ h => h)) (i := k) (u := .int .i64 x.id) (by simp [idsOf, hx])
          have hrw := HM4.out.row.fr hU (fun _ _ h => h)
          obtain ⟨ga, hga, r1, _, _⟩ := RowW.at hrw hx
          obtain ⟨⟨z0, z1, z2, z3, z4⟩, _⟩ := (HM4.out.boxM.fr hU (fun h => h)).all
          rw [HNA.out, hga] at z3
          subst hgl
          have HU := hide hU
          clear D hU hrw hx hga
          go_wp2_with fail
          refine wp_region_K (fun _ => true) (fun U : World => U = Y.drew) (by kernel_rfl) ?_
          generalize Y.drew = U9 at *
          have hS : (fun V : World => V = U9) U9 := rfl
          refine wpAnyK_takeTo 0 (some 68) (.slice (some ⟨gl, 0, none⟩) nA cl) [2, 3, 10] rfl rfl (by kernel_rfl) (by kernel_rfl) (by kernel_rfl) (by kernel_rfl) (fun _ _ _ h => h) hS (Or.inl ⟨rfl, fun w9 hw1 => by have hw1 : w9 = U9 := hw1; subst hw1; go_simp⟩) ?_
          simp only [Act.put, List.setIfInBounds_toArray, List.set_cons_zero, List.set_cons_succ]
          refine wpAnyK_takeTo 1 (some 69) (.int .i64 (k : Int)) [2, 3, 10] rfl rfl (by kernel_rfl) (by kernel_rfl) (by kernel_rfl) (by kernel_rfl) (fun _ _ _ h => h) hS (Or.inl ⟨rfl, fun w9 hw1 => by have hw1 : w9 = U9 := hw1; subst hw1; go_simp⟩) ?_
          simp only [Act.put, List.setIfInBounds_toArray, List.set_cons_zero, List.set_cons_succ]
          refine wpAnyK_takeTo 2 (some 70) (.pointer (some ⟨gl, k, none⟩)) [3, 10] rfl rfl (by kernel_rfl) (by kernel_rfl) (by kernel_rfl) (by kernel_rfl) (fun _ _ _ h => h) hS (Or.inl ⟨rfl, fun w9 hw1 => by have hw1 : w9 = U9 := hw1; subst hw1; go_simp⟩) ?_
          simp only [Act.put, List.setIfInBounds_toArray, List.set_cons_zero, List.set_cons_succ]
          refine wpAnyK_takeTo 3 (some 71) (.int .i64 x.id) [10] rfl rfl (by kernel_rfl) (by kernel_rfl) (by kernel_rfl) (by kernel_rfl) (fun _ _ _ h => h) hS (Or.inl ⟨rfl, fun w9 hw1 => by have hw1 : w9 = U9 := hw1; subst hw1; go_simp⟩) ?_
          simp only [Act.put, List.setIfInBounds_toArray, List.set_cons_zero, List.set_cons_succ]
          refine wpAnyK_takeTo 4 (some 72) (.pointer (some ⟨gb, 3, none⟩)) [5, 7, 8, 9, 10] rfl rfl (by kernel_rfl) (by kernel_rfl) (by kernel_rfl) (by kernel_rfl) (fun _ _ _ h => h) hS (Or.inl ⟨rfl, fun w9 hw1 => by have hw1 : w9 = U9 := hw1; subst hw1; go_simp⟩) ?_
          simp only [Act.put, List.setIfInBounds_toArray, List.set_cons_zero, List.set_cons_succ]
          refine wpAnyK_takeTo 5 (some 73) (.slice (some ⟨ga, 0, none⟩) nA m1.ac) [7, 8, 9, 10] rfl rfl (by kernel_rfl) (by kernel_rfl) (by kernel_rfl) (by kernel_rfl) (fun _ _ _ h => h) hS (Or.inl ⟨rfl, fun w9 hw1 => by have hw1 : w9 = U9 := hw1; subst hw1; go_simp⟩) ?_
          simp only [Act.put, List.setIfInBounds_toArray, List.set_cons_zero, List.set_cons_succ]
          refine wpAnyK_takeTo 6 (some 74) (.int .i64 (k : Int)) [7, 8, 9, 10] rfl rfl (by kernel_rfl) (by kernel_rfl) (by kernel_rfl) (by kernel_rfl) (fun _ _ _ h => h) hS (Or.inl ⟨rfl, fun w9 hw1 => by have hw1 : w9 = U9 := hw1; subst hw1; go_simp⟩) ?_
          simp only [Act.put, List.setIfInBounds_toArray, List.set_cons_zero, List.set_cons_succ]
          refine wpAnyK_takeTo 7 (some 75) (.pointer (some ⟨ga, k * 3, none⟩)) [8, 9, 10] rfl rfl (by kernel_rfl) (by kernel_rfl) (by kernel_rfl) (by kernel_rfl) (fun _ _ _ h => h) hS (Or.inl ⟨rfl, fun w9 hw1 => by have hw1 : w9 = U9 := hw1; subst hw1; go_simp⟩) ?_
          simp only [Act.put, List.setIfInBounds_toArray, List.set_cons_zero, List.set_cons_succ]
          refine wpAnyK_takeTo 8 (some 76) (.pointer (some ⟨ga, k * 3, none⟩)) [9, 10] rfl rfl (by kernel_rfl) (by kernel_rfl) (by kernel_rfl) (by kernel_rfl) (fun _ _ _ h => h) hS (Or.inl ⟨rfl, fun w9 hw1 => by have hw1 : w9 = U9 := hw1; subst hw1; go_simp⟩) ?_
          simp only [Act.put, List.setIfInBounds_toArray, List.set_cons_zero, List.set_cons_succ]
          refine wpAnyK_takeTo 9 (some 77) (.int .i64 x.id) [10] rfl rfl (by kernel_rfl) (by kernel_rfl) (by kernel_rfl) (by kernel_rfl) (fun _ _ _ h => h) hS (Or.inl ⟨rfl, fun w9 hw1 => by have hw1 : w9 = U9 := hw1; subst hw1; go_simp⟩) ?_
          simp only [Act.put, List.setIfInBounds_toArray, List.set_cons_zero, List.set_cons_succ]
          refine wpAnyK_takeTo 10 (some 78) (.bool false) [] rfl rfl (by kernel_rfl) (by kernel_rfl) (by kernel_rfl) (by kernel_rfl) (fun _ _ _ h => h) hS (Or.inl ⟨rfl, fun w9 hw1 => by have hw1 : w9 = U9 := hw1; subst hw1; go_simp⟩) ?_
          simp only [Act.put, List.setIfInBounds_toArray, List.set_cons_zero, List.set_cons_succ]
          refine wpAnyK_done (by kernel_rfl) ?_ _
          clear hS r0 r1 z0 z1 z2 z3 z4
          go_wp2
          go_roundw
          case rel => exact ⟨k + 1, by omega, by go_num, HU.out⟩
          case measure => simp [intOf]; omega
        · have e1 : nA = k := by omega
          subst e1
          go_wp2
          go_roundw
          case rel => exact ⟨j + 1, s1, m1, N1, D1, by omega, by go_num, rfl, HM4.out.fr HFY.out, HP1.out⟩
          case measure => simp [intOf]; omega
    · have e1 : n = j := by omega
      subst e1
      have HEND : Hid (Fr w W (fun _ => False)) := hide (HM.out.frame.mono (fun k hk h => HEN.out k hk h))
      go_wp2
      go_ret
      exact ⟨rfl, HEND.out⟩
end Go.Proofs.Ytiooacaplajidaa
