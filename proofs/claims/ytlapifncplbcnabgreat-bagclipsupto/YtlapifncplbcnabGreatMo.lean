/- BagClips: the walk. -/
import Derived.Test.YtlapifncplbcnabGreatMm
import Derived.Test.YtlapifncplbcnabGreatMq
namespace Go.Proofs.YtlapifncplbcnabGreat
open Go.RowKit
set_option maxRecDepth 100000
set_option linter.unusedVariables false
set_option linter.unusedSimpArgs false

theorem clip_len {L F : List Ft} {p : Per} {n : Nat} (hL : L.length ≤ n) (h : Fo (stepsL (clipL L p) 1) (F.map Ft.fa)) : F.length ≤ n := by
  have h1 := h.len
  rw [List.length_map] at h1
  have h2 := absS_one (clipL L p) 1 (.inl rfl)
  have h3 := clipL_len L p
  omega
/-- Cut to two periods: how often a row is there. -/
theorem cN_two {L F G : List Ft} {p q : Per} (h : Fo (stepsL (clipL L p) 1) (F.map Ft.fa)) (k : Fo (stepsL (clipL F q) 1) (G.map Ft.fa)) (r : List Val) (t : Int) : max (sumR (stepsL (clipL F q) 1) r t) 0 = if rightB q = true ∧ q.lo ≤ t ∧ t < q.hi then (if rightB p = true ∧ p.lo ≤ t ∧ t < p.hi then cN L r t else 0) else 0 := by
  have hn := cN_nonneg L r t
  have e1 : cN F r t = if rightB p = true ∧ p.lo ≤ t ∧ t < p.hi then cN L r t else 0 := by
    rw [h.cN (Rts.steps _ _), sumR_steps, cN_clip]
    split <;> omega
  rw [sumR_steps, cN_clip, e1]
  split
  · split <;> omega
  · omega
theorem two_same {L F G F' G' : List Ft} {p q : Per} (h : Fo (stepsL (clipL L p) 1) (F.map Ft.fa)) (k : Fo (stepsL (clipL F q) 1) (G.map Ft.fa)) (h' : Fo (stepsL (clipL L q) 1) (F'.map Ft.fa)) (k' : Fo (stepsL (clipL F' p) 1) (G'.map Ft.fa)) : G.map Ft.fa = G'.map Ft.fa := by
  refine k.same k' (fun r t => ?_)
  rw [cN_two h k, cN_two h' k']
  split
  · split <;> rfl
  · split <;> rfl
theorem two_none {L F G : List Ft} {p q : Per} (hm : p.hi = q.lo) (h : Fo (stepsL (clipL L p) 1) (F.map Ft.fa)) (k : Fo (stepsL (clipL F q) 1) (G.map Ft.fa)) : G = [] := by
  have e : G.map Ft.fa = ([] : List Ft).map Ft.fa := by
    refine k.same (S' := []) Fo.nil (fun r t => ?_)
    rw [cN_two h k]
    have : sumR [] r t = 0 := rfl
    rw [this]
    split
    · rw [if_neg (by omega)]; rfl
    · rfl
  exact List.map_eq_nil_iff.1 e
theorem two_whole {L F G N H : List Ft} {a b : Ls} {p q : Per} (hp : rightB p = true) (hq : rightB q = true) (hm : p.hi = q.lo) (ha : a.L = F) (hb : b.L = G) (h : Fo (stepsL (clipL L p) 1) (F.map Ft.fa)) (k : Fo (stepsL (clipL L q) 1) (G.map Ft.fa)) (hn : Fo (allS [a, b]) (N.map Ft.fa))
    (hw : Fo (stepsL (clipL L ⟨p.lo, q.hi⟩) 1) (H.map Ft.fa)) : N.map Ft.fa = H.map Ft.fa := by
  have h1 := (rightB_iff _).1 hp
  have h2 := (rightB_iff _).1 hq
  have h3 : rightB ⟨p.lo, q.hi⟩ = true := by
    rw [rightB_iff]
    unfold Right at *
    simp only
    omega
  refine hn.same hw (fun r t => ?_)
  have hz := cN_nonneg L r t
  rw [sumR_all_steps, sumR_steps, cN_clip]
  simp only [tot, Int.add_zero]
  rw [ha, hb, h.cN (Rts.steps _ _), k.cN (Rts.steps _ _), sumR_steps, sumR_steps, cN_clip, cN_clip, hp, hq, h3]
  simp only [true_and]
  unfold Right at h1 h2
  by_cases c1 : t < p.lo
  · rw [if_neg (by omega), if_neg (by omega), if_neg (by omega)]; rfl
  · by_cases c2 : t < p.hi
    · rw [if_pos (by omega), if_neg (by omega), if_pos (by omega)]; omega
    · by_cases c3 : t < q.hi
      · rw [if_neg (by omega), if_pos (by omega), if_pos (by omega)]; omega
      · rw [if_neg (by omega), if_neg (by omega), if_neg (by omega)]; rfl
set_option maxHeartbeats 16000000 in
theorem clips_walk {w : World} {x : Ls} (hx : FIn w x) (p q : Per) (hl : x.L.length ≤ 1048576) :
    Calls Tryz.prog 4 #[.slice x.p x.L.length x.c, perV p, perV q] w fun e w' => e = .returned (.bool true) ∧ Fr w w' (fun _ => False) := by
  have HX := hide hx
  obtain ⟨m, hm⟩ : ∃ m, m = x.L.length := ⟨_, rfl⟩
  have HM := hide hm
  have HML := hide hl
  obtain ⟨g, hg⟩ : ∃ g, g = w.heap.size := ⟨_, rfl⟩
  obtain ⟨w1, hw1⟩ : ∃ w1, w1 = w.alloc (.cells #[.int .i64 p.lo, .int .i64 p.hi] 26) := ⟨_, rfl⟩
  obtain ⟨w2, hw2⟩ : ∃ w2, w2 = w1.alloc (.cells #[.int .i64 q.lo, .int .i64 q.hi] 26) := ⟨_, rfl⟩
  have f1 : Fr w w1 (fun _ => False) := by rw [hw1]; exact Fr.alloc _ _ _
  have f2 : Fr w1 w2 (fun _ => False) := by rw [hw2]; exact Fr.alloc _ _ _
  have b1 : Two w1 g (.int .i64 p.lo) (.int .i64 p.hi) := by rw [hw1, hg]; exact two_of (heap_alloc_new w _)
  have z1 : w1.heap.size = g + 1 := by rw [hw1, hg]; simp
  have b2 : Two w2 (g + 1) (.int .i64 q.lo) (.int .i64 q.hi) := by rw [hw2, ← z1]; exact two_of (heap_alloc_new w1 _)
  have HF2 := hide ((f1.trans f2).mono (Y := fun _ => False) (by simp))
  have HP2 := hide (b1.fr f2 (fun h => h))
  have HQ2 := hide b2
  have HW1 := hide hw1
  have HW2 := hide hw2
  have HG := hide hg
  have HZ := hide z1
  rw [← hm]
  clear hx hm hl f1 f2 b1 b2 hw1 hw2 hg z1
  unfold perV
  go_enter Tryz.func4, Tryz.ntmps4
  go_wp2_with fail
  rw [← HW1.out, ← HW2.out, ← HG.out]
  refine (awake_any _).mono ?_
  rintro e w3 ⟨rfl, f3⟩
  have HF3 := hide ((HF2.out.trans f3).mono (Y := fun _ => False) (by simp))
  have HPW := hide (HP2.out.fr f3 (fun h => h))
  have HQW := hide (HQ2.out.fr f3 (fun h => h))
  have HC1 : Hid (∀ (V : World) (hf : Fr w V (fun _ => False)) (r : Per), Calls Tryz.prog 10 #[.slice x.p m x.c, .agg #[.int .i64 r.lo, .int .i64 r.hi]] V fun e w' => ∃ v F, e = .returned v ∧ Made V w' v (stepsL (clipL x.L r) 1) F) := hide (fun V hf r => by rw [HM.out]; exact clip_any (HX.out.fr hf) r (by have := HML.out; omega))
  clear HW1 HW2 HG HZ HF2 HP2 HQ2 f3
  go_wp2_with fail
  refine wp_region_K (fun z => decide (z < 4)) (fun U : World => Fr (w3.drew) U (fun _ => False)) (by kernel_rfl) ?_
  have hS : (fun U : World => Fr (w3.drew) U (fun _ => False)) w3.drew := Fr.refl _ _
  have D1 := Fr.drew w3 (fun _ => False)
  have HFV := hide ((HF3.out.trans D1).mono (Y := fun _ => False) (by simp))
  have HP := hide (HPW.out.fr D1 (fun h => h))
  have HQ := hide (HQW.out.fr D1 (fun h => h))
  clear D1
  generalize w3.drew = V at *
  refine wpAnyK_takeTo 0 (some 10) ((.slice x.p m x.c)) [2, 4, 5] rfl rfl (by kernel_rfl) (by kernel_rfl) (by kernel_rfl) (by kernel_rfl) (fun _ _ _ h => h) hS (Or.inl ⟨rfl, fun w1 hw1 => by go_simp⟩) ?_
  simp only [Act.put, List.setIfInBounds_toArray, List.set_cons_zero, List.set_cons_succ]
  refine wpAnyK_takeTo 1 (some 11) ((.agg #[.int .i64 p.lo, .int .i64 p.hi])) [2, 4, 5] rfl rfl (by kernel_rfl) (by kernel_rfl) (by kernel_rfl) (by kernel_rfl) (fun _ _ _ h => h) hS (Or.inl ⟨rfl, fun w1 hw1 => by have q0 := (HP.out.fr hw1 (fun h => h)).1; have q1 := (HP.out.fr hw1 (fun h => h)).2.1; have q2 := (HQ.out.fr hw1 (fun h => h)).1; have q3 := (HQ.out.fr hw1 (fun h => h)).2.1; go_simp⟩) ?_
  simp only [Act.put, List.setIfInBounds_toArray, List.set_cons_zero, List.set_cons_succ]
  refine wpAnyK_takeTo 3 (some 13) ((.agg #[.int .i64 q.lo, .int .i64 q.hi])) [4, 5] rfl rfl (by kernel_rfl) (by kernel_rfl) (by kernel_rfl) (by kernel_rfl) (fun _ _ _ h => h) hS (Or.inl ⟨rfl, fun w1 hw1 => by have q0 := (HP.out.fr hw1 (fun h => h)).1; have q1 := (HP.out.fr hw1 (fun h => h)).2.1; have q2 := (HQ.out.fr hw1 (fun h => h)).1; have q3 := (HQ.out.fr hw1 (fun h => h)).2.1; go_simp⟩) ?_
  simp only [Act.put, List.setIfInBounds_toArray, List.set_cons_zero, List.set_cons_succ]
  refine wpAnyK_one (i := 2) (by kernel_rfl) rfl rfl ?_
  refine wp_call_to (some 12) rfl 10 #[(.slice x.p m x.c), (.agg #[.int .i64 p.lo, .int .i64 p.hi])] (by go_simp) (HC1.out V HFV.out p) ?_
  rintro e W1 ⟨v1, F1, rfl, hm1⟩
  have HV1 : Hid (Fr V W1 (fun _ => False)) := hide hm1.fr
  have HE1 := hide hm1.fr
  obtain ⟨p1, c1, rfl, hi1⟩ := hm1.fin
  have HI1 := hide hi1
  have HO1 := hide hm1.fo
  have HL1 := hide (clip_len HML.out hm1.fo)
  clear hm1 hi1
  refine ⟨_, rfl, fun _ => HV1.out, ?_⟩
  simp only [Act.put, List.setIfInBounds_toArray, List.set_cons_zero, List.set_cons_succ]
  refine wpAnyK_one (i := 4) (by kernel_rfl) rfl rfl ?_
  refine wp_call_to (some 14) rfl 10 #[(.slice p1 F1.length c1), (.agg #[.int .i64 q.lo, .int .i64 q.hi])] (by go_simp) (clip_any HI1.out q (by have := HL1.out; show F1.length ≤ _; omega)) ?_
  rintro e W2 ⟨v2, F2, rfl, hm2⟩
  have HV2 : Hid (Fr V W2 (fun _ => False)) := hide ((HV1.out.trans hm2.fr).mono (by simp))
  have HE2 := hide hm2.fr
  obtain ⟨p2, c2, rfl, hi2⟩ := hm2.fin
  have HI2 := hide hi2
  have HO2 := hide hm2.fo
  have HL2 := hide (clip_len HL1.out hm2.fo)
  clear hm2 hi2
  refine ⟨_, rfl, fun _ => HV2.out, ?_⟩
  simp only [Act.put, List.setIfInBounds_toArray, List.set_cons_zero, List.set_cons_succ]
  refine wpAnyK_one (i := 5) (by kernel_rfl) rfl rfl ?_
  go_simp
  refine wpAnyK_done (by kernel_rfl) ?_ _
  have HF4 := hide ((HFV.out.trans HV2.out).mono (Y := fun _ => False) (by simp))
  have HP4 := hide (HP.out.fr HV2.out (fun h => h))
  have HQ4 := hide (HQ.out.fr HV2.out (fun h => h))
  clear hS HP HQ HPW HQW HFV HF3 HV1
  go_wp2_with fail
  refine wp_region_K (fun z => decide (z < 6)) (fun U : World => Fr (W2.drew) U (fun _ => False)) (by kernel_rfl) ?_
  have hS : (fun U : World => Fr (W2.drew) U (fun _ => False)) W2.drew := Fr.refl _ _
  have D1 := Fr.drew W2 (fun _ => False)
  have HFV := hide ((HF4.out.trans D1).mono (Y := fun _ => False) (by simp))
  have HP := hide (HP4.out.fr D1 (fun h => h))
  have HQ := hide (HQ4.out.fr D1 (fun h => h))
  have HDV := hide D1
  clear D1
  generalize W2.drew = V at *
  refine wpAnyK_takeTo 0 (some 15) ((.slice p2 F2.length c2)) [6, 7] rfl rfl (by kernel_rfl) (by kernel_rfl) (by kernel_rfl) (by kernel_rfl) (fun _ _ _ h => h) hS (Or.inl ⟨rfl, fun w1 hw1 => by go_simp⟩) ?_
  simp only [Act.put, List.setIfInBounds_toArray, List.set_cons_zero, List.set_cons_succ]
  refine wpAnyK_takeTo 1 (some 16) ((.slice x.p m x.c)) [3, 5, 6, 7] rfl rfl (by kernel_rfl) (by kernel_rfl) (by kernel_rfl) (by kernel_rfl) (fun _ _ _ h => h) hS (Or.inl ⟨rfl, fun w1 hw1 => by go_simp⟩) ?_
  simp only [Act.put, List.setIfInBounds_toArray, List.set_cons_zero, List.set_cons_succ]
  refine wpAnyK_takeTo 2 (some 17) ((.agg #[.int .i64 q.lo, .int .i64 q.hi])) [3, 5, 6, 7] rfl rfl (by kernel_rfl) (by kernel_rfl) (by kernel_rfl) (by kernel_rfl) (fun _ _ _ h => h) hS (Or.inl ⟨rfl, fun w1 hw1 => by have q0 := (HP.out.fr hw1 (fun h => h)).1; have q1 := (HP.out.fr hw1 (fun h => h)).2.1; have q2 := (HQ.out.fr hw1 (fun h => h)).1; have q3 := (HQ.out.fr hw1 (fun h => h)).2.1; go_simp⟩) ?_
  simp only [Act.put, List.setIfInBounds_toArray, List.set_cons_zero, List.set_cons_succ]
  refine wpAnyK_takeTo 4 (some 19) ((.agg #[.int .i64 p.lo, .int .i64 p.hi])) [5, 6, 7] rfl rfl (by kernel_rfl) (by kernel_rfl) (by kernel_rfl) (by kernel_rfl) (fun _ _ _ h => h) hS (Or.inl ⟨rfl, fun w1 hw1 => by have q0 := (HP.out.fr hw1 (fun h => h)).1; have q1 := (HP.out.fr hw1 (fun h => h)).2.1; have q2 := (HQ.out.fr hw1 (fun h => h)).1; have q3 := (HQ.out.fr hw1 (fun h => h)).2.1; go_simp⟩) ?_
  simp only [Act.put, List.setIfInBounds_toArray, List.set_cons_zero, List.set_cons_succ]
  refine wpAnyK_one (i := 3) (by kernel_rfl) rfl rfl ?_
  refine wp_call_to (some 18) rfl 10 #[(.slice x.p m x.c), (.agg #[.int .i64 q.lo, .int .i64 q.hi])] (by go_simp) (HC1.out V HFV.out q) ?_
  rintro e W3 ⟨v3, F3, rfl, hm3⟩
  have HV3 : Hid (Fr V W3 (fun _ => False)) := hide hm3.fr
  have HE3 := hide hm3.fr
  obtain ⟨p3, c3, rfl, hi3⟩ := hm3.fin
  have HI3 := hide hi3
  have HO3 := hide hm3.fo
  have HL3 := hide (clip_len HML.out hm3.fo)
  clear hm3 hi3
  refine ⟨_, rfl, fun _ => HV3.out, ?_⟩
  simp only [Act.put, List.setIfInBounds_toArray, List.set_cons_zero, List.set_cons_succ]
  refine wpAnyK_one (i := 5) (by kernel_rfl) rfl rfl ?_
  refine wp_call_to (some 20) rfl 10 #[(.slice p3 F3.length c3), (.agg #[.int .i64 p.lo, .int .i64 p.hi])] (by go_simp) (clip_any HI3.out p (by have := HL3.out; show F3.length ≤ _; omega)) ?_
  rintro e W4 ⟨v4, F4, rfl, hm4⟩
  have HV4 : Hid (Fr V W4 (fun _ => False)) := hide ((HV3.out.trans hm4.fr).mono (by simp))
  have HE4 := hide hm4.fr
  obtain ⟨p4, c4, rfl, hi4⟩ := hm4.fin
  have HI4 := hide hi4
  have HO4 := hide hm4.fo
  have HL4 := hide (clip_len HL3.out hm4.fo)
  clear hm4 hi4
  refine ⟨_, rfl, fun _ => HV4.out, ?_⟩
  simp only [Act.put, List.setIfInBounds_toArray, List.set_cons_zero, List.set_cons_succ]
  have HSM := hide (same_any (x := ⟨p2, c2, F2⟩) (y := ⟨p4, c4, F4⟩) ((HI2.out.fr HDV.out).fr HV4.out) HI4.out (by have := HL2.out; show F2.length ≤ _; omega))
  simp only at HSM
  refine wpAnyK_one (i := 6) (by kernel_rfl) rfl rfl ?_
  refine wp_call_to (some 21) rfl 9 #[.slice p2 F2.length c2, .slice p4 F4.length c4] (by go_simp) HSM.out ?_
  rintro e W5 ⟨rfl, f5⟩
  refine ⟨_, rfl, fun h => absurd h (by decide), ?_⟩
  simp only [Act.put, List.setIfInBounds_toArray, List.set_cons_zero, List.set_cons_succ]
  rw [show decide (F2.map Ft.fa = F4.map Ft.fa) = true from decide_eq_true (two_same HO1.out HO2.out HO3.out HO4.out)]
  have HF5 := hide (((HFV.out.trans HV4.out).trans f5).mono (Y := fun _ => False) (by simp))
  have HP5 := hide ((HP.out.fr HV4.out (fun h => h)).fr f5 (fun h => h))
  have HQ5 := hide ((HQ.out.fr HV4.out (fun h => h)).fr f5 (fun h => h))
  refine wpAnyK_one (i := 7) (by kernel_rfl) rfl rfl ?_
  go_simp
  refine wpAnyK_done (by kernel_rfl) ?_ _
  clear f5
  clear hS HP HQ HFV HF4 HV3 HDV HSM
  have q0 := HP5.out.1
  have q1 := HP5.out.2.1
  have q2 := HQ5.out.1
  have q3 := HQ5.out.2.1
  go_wp2_with fail
  refine (rright_any p _).mono ?_
  rintro e w6 ⟨rfl, f6⟩
  have HF6 := hide ((HF5.out.trans f6).mono (Y := fun _ => False) (by simp))
  have HP6 := hide (HP5.out.fr f6 (fun h => h))
  have HQ6 := hide (HQ5.out.fr f6 (fun h => h))
  clear f6 HF5 HP5 HQ5 q0 q1 q2 q3
  have q0 := HP6.out.1
  have q1 := HP6.out.2.1
  have q2 := HQ6.out.1
  have q3 := HQ6.out.2.1
  by_cases hrp : rightB p = true
  · rw [hrp]
    have HRP := hide hrp
    clear hrp
    go_wp2_with fail
    refine (rright_any q _).mono ?_
    rintro e w7 ⟨rfl, f7⟩
    have HF7 := hide ((HF6.out.trans f7).mono (Y := fun _ => False) (by simp))
    have HPW := hide (HP6.out.fr f7 (fun h => h))
    have HQW := hide (HQ6.out.fr f7 (fun h => h))
    clear f7 HF6 HP6 HQ6 q0 q1 q2 q3
    have q0 := HPW.out.1
    have q1 := HPW.out.2.1
    have q2 := HQW.out.1
    have q3 := HQW.out.2.1
    by_cases hrq : rightB q = true
    · rw [hrq]
      have HRQ := hide hrq
      clear hrq
      by_cases hmt : p.hi = q.lo
      · have HMT := hide hmt
        have hnil := two_none hmt HO1.out HO2.out
        have HNIL := hide hnil
        rw [hnil]
        rw [← hmt] at q2
        have HMB : Hid ((p.hi == q.lo) = true) := hide (by simpa using hmt)
        clear hmt hnil
        simp only [List.length_nil]
        go_wp2_with fail
        refine wp_region_K (fun z => decide (z < 18)) (fun U : World => Fr (w7.drew) U (fun _ => False)) (by kernel_rfl) ?_
        have hS : (fun U : World => Fr (w7.drew) U (fun _ => False)) w7.drew := Fr.refl _ _
        have D1 := Fr.drew w7 (fun _ => False)
        have HFV := hide ((HF7.out.trans D1).mono (Y := fun _ => False) (by simp))
        have HP := hide (HPW.out.fr D1 (fun h => h))
        have HQ := hide (HQW.out.fr D1 (fun h => h))
        clear D1
        generalize w7.drew = V at *
        refine wpAnyK_takeTo 0 (some 38) ((.slice p2 0 c2)) [1, 2, 3, 4, 5, 6, 7, 8, 9, 10, 11, 12, 13, 14, 15, 16, 17, 18, 19, 20, 21] rfl rfl (by kernel_rfl) (by kernel_rfl) (by kernel_rfl) (by kernel_rfl) (fun _ _ _ h => h) hS (Or.inl ⟨rfl, fun w1 hw1 => by go_simp⟩) ?_
        simp only [Act.put, List.setIfInBounds_toArray, List.set_cons_zero, List.set_cons_succ]
        refine wpAnyK_takeTo 1 (some 39) (.int .i64 0) [2, 3, 4, 5, 6, 7, 8, 9, 10, 11, 12, 13, 14, 15, 16, 17, 18, 19, 20, 21] rfl rfl (by kernel_rfl) (by kernel_rfl) (by kernel_rfl) (by kernel_rfl) (fun _ _ _ h => h) hS (Or.inl ⟨rfl, fun w1 hw1 => by go_simp⟩) ?_
        simp only [Act.put, List.setIfInBounds_toArray, List.set_cons_zero, List.set_cons_succ]
        refine wpAnyK_takeTo 2 (some 40) (.bool true) [3, 4, 5, 6, 7, 8, 9, 10, 11, 12, 13, 14, 15, 16, 17, 18, 19, 20, 21] rfl rfl (by kernel_rfl) (by kernel_rfl) (by kernel_rfl) (by kernel_rfl) (fun _ _ _ h => h) hS (Or.inl ⟨rfl, fun w1 hw1 => by go_simp⟩) ?_
        simp only [Act.put, List.setIfInBounds_toArray, List.set_cons_zero, List.set_cons_succ]
        refine wpAnyK_takeTo 3 (some 41) (.bool true) [4, 5, 6, 7, 8, 9, 10, 11, 12, 13, 14, 15, 16, 17, 18, 19, 20, 21] rfl rfl (by kernel_rfl) (by kernel_rfl) (by kernel_rfl) (by kernel_rfl) (fun _ _ _ h => h) hS (Or.inl ⟨rfl, fun w1 hw1 => by go_simp⟩) ?_
        simp only [Act.put, List.setIfInBounds_toArray, List.set_cons_zero, List.set_cons_succ]
        refine wpAnyK_takeTo 4 (some 42) ((.slice x.p m x.c)) [6, 9, 10, 11, 18, 19, 20, 21] rfl rfl (by kernel_rfl) (by kernel_rfl) (by kernel_rfl) (by kernel_rfl) (fun _ _ _ h => h) hS (Or.inl ⟨rfl, fun w1 hw1 => by go_simp⟩) ?_
        simp only [Act.put, List.setIfInBounds_toArray, List.set_cons_zero, List.set_cons_succ]
        refine wpAnyK_takeTo 5 (some 43) ((.agg #[.int .i64 p.lo, .int .i64 p.hi])) [6, 9, 10, 11, 18, 19, 20, 21] rfl rfl (by kernel_rfl) (by kernel_rfl) (by kernel_rfl) (by kernel_rfl) (fun _ _ _ h => h) hS (Or.inl ⟨rfl, fun w1 hw1 => by have q0 := (HP.out.fr hw1 (fun h => h)).1; have q1 := (HP.out.fr hw1 (fun h => h)).2.1; have q2 := (HQ.out.fr hw1 (fun h => h)).1; have q3 := (HQ.out.fr hw1 (fun h => h)).2.1; go_simp⟩) ?_
        simp only [Act.put, List.setIfInBounds_toArray, List.set_cons_zero, List.set_cons_succ]
        refine wpAnyK_takeTo 7 (some 45) ((.slice x.p m x.c)) [9, 10, 11, 18, 19, 20, 21] rfl rfl (by kernel_rfl) (by kernel_rfl) (by kernel_rfl) (by kernel_rfl) (fun _ _ _ h => h) hS (Or.inl ⟨rfl, fun w1 hw1 => by go_simp⟩) ?_
        simp only [Act.put, List.setIfInBounds_toArray, List.set_cons_zero, List.set_cons_succ]
        refine wpAnyK_takeTo 8 (some 46) ((.agg #[.int .i64 q.lo, .int .i64 q.hi])) [9, 10, 11, 18, 19, 20, 21] rfl rfl (by kernel_rfl) (by kernel_rfl) (by kernel_rfl) (by kernel_rfl) (fun _ _ _ h => h) hS (Or.inl ⟨rfl, fun w1 hw1 => by have q0 := (HP.out.fr hw1 (fun h => h)).1; have q1 := (HP.out.fr hw1 (fun h => h)).2.1; have q2 := (HQ.out.fr hw1 (fun h => h)).1; have q3 := (HQ.out.fr hw1 (fun h => h)).2.1; go_simp⟩) ?_
        simp only [Act.put, List.setIfInBounds_toArray, List.set_cons_zero, List.set_cons_succ]
        refine wpAnyK_takeTo 12 (some 50) ((.slice x.p m x.c)) [18, 19, 20, 21] rfl rfl (by kernel_rfl) (by kernel_rfl) (by kernel_rfl) (by kernel_rfl) (fun _ _ _ h => h) hS (Or.inl ⟨rfl, fun w1 hw1 => by go_simp⟩) ?_
        simp only [Act.put, List.setIfInBounds_toArray, List.set_cons_zero, List.set_cons_succ]
        refine wpAnyK_takeTo 13 (some 51) (.pointer (some ⟨g, 0, none⟩)) [14, 17, 18, 19, 20, 21] rfl rfl (by kernel_rfl) (by kernel_rfl) (by kernel_rfl) (by kernel_rfl) (fun _ _ _ h => h) hS (Or.inl ⟨rfl, fun w1 hw1 => by go_simp⟩) ?_
        simp only [Act.put, List.setIfInBounds_toArray, List.set_cons_zero, List.set_cons_succ]
        refine wpAnyK_takeTo 14 (some 52) (.int .i64 p.lo) [17, 18, 19, 20, 21] rfl rfl (by kernel_rfl) (by kernel_rfl) (by kernel_rfl) (by kernel_rfl) (fun _ _ _ h => h) hS (Or.inl ⟨rfl, fun w1 hw1 => by have q0 := (HP.out.fr hw1 (fun h => h)).1; have q1 := (HP.out.fr hw1 (fun h => h)).2.1; have q2 := (HQ.out.fr hw1 (fun h => h)).1; have q3 := (HQ.out.fr hw1 (fun h => h)).2.1; go_simp⟩) ?_
        simp only [Act.put, List.setIfInBounds_toArray, List.set_cons_zero, List.set_cons_succ]
        refine wpAnyK_takeTo 15 (some 53) (.pointer (some ⟨g + 1, 1, none⟩)) [16, 17, 18, 19, 20, 21] rfl rfl (by kernel_rfl) (by kernel_rfl) (by kernel_rfl) (by kernel_rfl) (fun _ _ _ h => h) hS (Or.inl ⟨rfl, fun w1 hw1 => by go_simp⟩) ?_
        simp only [Act.put, List.setIfInBounds_toArray, List.set_cons_zero, List.set_cons_succ]
        refine wpAnyK_takeTo 16 (some 54) (.int .i64 q.hi) [17, 18, 19, 20, 21] rfl rfl (by kernel_rfl) (by kernel_rfl) (by kernel_rfl) (by kernel_rfl) (fun _ _ _ h => h) hS (Or.inl ⟨rfl, fun w1 hw1 => by have q0 := (HP.out.fr hw1 (fun h => h)).1; have q1 := (HP.out.fr hw1 (fun h => h)).2.1; have q2 := (HQ.out.fr hw1 (fun h => h)).1; have q3 := (HQ.out.fr hw1 (fun h => h)).2.1; go_simp⟩) ?_
        simp only [Act.put, List.setIfInBounds_toArray, List.set_cons_zero, List.set_cons_succ]
        refine wpAnyK_takeTo 17 (some 55) ((.agg #[.int .i64 p.lo, .int .i64 q.hi])) [18, 19, 20, 21] rfl rfl (by kernel_rfl) (by kernel_rfl) (by kernel_rfl) (by kernel_rfl) (fun _ _ _ h => h) hS (Or.inl ⟨rfl, fun w1 hw1 => by go_simp⟩) ?_
        simp only [Act.put, List.setIfInBounds_toArray, List.set_cons_zero, List.set_cons_succ]
        refine wpAnyK_one (i := 6) (by kernel_rfl) rfl rfl ?_
        refine wp_call_to (some 44) rfl 10 #[(.slice x.p m x.c), (.agg #[.int .i64 p.lo, .int .i64 p.hi])] (by go_simp) (HC1.out V HFV.out p) ?_
        rintro e W5 ⟨v5, F5, rfl, hm5⟩
        have HV5 : Hid (Fr V W5 (fun _ => False)) := hide hm5.fr
        have HE5 := hide hm5.fr
        obtain ⟨p5, c5, rfl, hi5⟩ := hm5.fin
        have HI5 := hide hi5
        have HO5 := hide hm5.fo
        have HL5 := hide (clip_len HML.out hm5.fo)
        clear hm5 hi5
        refine ⟨_, rfl, fun _ => HV5.out, ?_⟩
        simp only [Act.put, List.setIfInBounds_toArray, List.set_cons_zero, List.set_cons_succ]
        refine wpAnyK_one (i := 9) (by kernel_rfl) rfl rfl ?_
        refine wp_call_to (some 47) rfl 10 #[(.slice x.p m x.c), (.agg #[.int .i64 q.lo, .int .i64 q.hi])] (by go_simp) (HC1.out W5 ((HFV.out.trans HV5.out).mono (by simp)) q) ?_
        rintro e W6 ⟨v6, F6, rfl, hm6⟩
        have HV6 : Hid (Fr V W6 (fun _ => False)) := hide ((HV5.out.trans hm6.fr).mono (by simp))
        have HE6 := hide hm6.fr
        obtain ⟨p6, c6, rfl, hi6⟩ := hm6.fin
        have HI6 := hide hi6
        have HO6 := hide hm6.fo
        have HL6 := hide (clip_len HML.out hm6.fo)
        clear hm6 hi6
        refine ⟨_, rfl, fun _ => HV6.out, ?_⟩
        simp only [Act.put, List.setIfInBounds_toArray, List.set_cons_zero, List.set_cons_succ]
        obtain ⟨W7, hW7⟩ : ∃ W7, W7 = W6.alloc (.cells #[.slice p5 F5.length c5, .slice p6 F6.length c6] 22) := ⟨_, rfl⟩
        obtain ⟨g7, hg7⟩ : ∃ g7, g7 = W6.heap.size := ⟨_, rfl⟩
        obtain ⟨D, hD⟩ : ∃ D : List Ls, D = [⟨p5, c5, F5⟩, ⟨p6, c6, F6⟩] := ⟨_, rfl⟩
        have f67 : Fr W6 W7 (fun _ => False) := by rw [hW7]; exact Fr.alloc _ _ _
        have HV7 : Hid (Fr V W7 (fun _ => False)) := hide ((HV6.out.trans f67).mono (by simp))
        have hrow : Row elL W7 (some ⟨g7, 0, none⟩) D := by rw [hW7, hg7, hD]; exact Row.new elL W6 _ _ rfl
        have hal : allN D = F5.length + F6.length := by rw [hD]; simp [allN]
        have HNM := normal_any (cl := 2) hrow (fun d hd => by
          rw [hD] at hd
          simp only [List.mem_cons, List.not_mem_nil, or_false] at hd
          rcases hd with rfl | rfl
          · exact (HI5.out.fr HE6.out).fr f67
          · exact HI6.out.fr f67) (by have := HL5.out; have := HL6.out; omega) (by rw [hD]; simp)
        rw [show D.length = 2 by rw [hD]; rfl] at HNM
        have HNN := hide HNM
        have HW7 := hide hW7
        have HG7 := hide hg7
        have HDD := hide hD
        have HAL := hide hal
        clear hW7 hg7 hD f67 hrow HNM hal
        refine wpAnyK_one (i := 10) (by kernel_rfl) rfl rfl ?_
        go_simp
        rw [← HW7.out, ← HG7.out]
        refine ⟨HV7.out, ?_⟩
        refine wpAnyK_one (i := 11) (by kernel_rfl) rfl rfl ?_
        refine wp_call_to (some 49) rfl 12 #[.slice (some ⟨g7, 0, none⟩) 2 2] (by go_simp) HNN.out ?_
        rintro e W8 ⟨v8, F8, rfl, hm8⟩
        have HV8 : Hid (Fr V W8 (fun _ => False)) := hide ((HV7.out.trans hm8.fr).mono (by simp))
        obtain ⟨p8, c8, rfl, hi8⟩ := hm8.fin
        have HI8 := hide hi8
        have HO8 := hide hm8.fo
        have HL8 := hide (show F8.length ≤ 2097152 by
          have h1 := hm8.fo.len
          rw [List.length_map] at h1
          have h2 := (allS_len D).2
          have := HL5.out
          have := HL6.out
          have := HAL.out
          omega)
        rw [HDD.out] at HO8
        clear hm8 hi8
        refine ⟨_, rfl, fun _ => HV8.out, ?_⟩
        simp only [Act.put, List.setIfInBounds_toArray, List.set_cons_zero, List.set_cons_succ]
        refine wpAnyK_one (i := 18) (by kernel_rfl) rfl rfl ?_
        refine wp_call_to (some 56) rfl 10 #[(.slice x.p m x.c), (.agg #[.int .i64 p.lo, .int .i64 q.hi])] (by go_simp) (HC1.out W8 ((HFV.out.trans HV8.out).mono (by simp)) ⟨p.lo, q.hi⟩) ?_
        rintro e W9 ⟨v9, F9, rfl, hm9⟩
        have HV9 : Hid (Fr V W9 (fun _ => False)) := hide ((HV8.out.trans hm9.fr).mono (by simp))
        have HE9 := hide hm9.fr
        obtain ⟨p9, c9, rfl, hi9⟩ := hm9.fin
        have HI9 := hide hi9
        have HO9 := hide hm9.fo
        have HL9 := hide (clip_len HML.out hm9.fo)
        clear hm9 hi9
        refine ⟨_, rfl, fun h => absurd h (by decide), ?_⟩
        simp only [Act.put, List.setIfInBounds_toArray, List.set_cons_zero, List.set_cons_succ]
        have HSM := hide (same_any (x := ⟨p8, c8, F8⟩) (y := ⟨p9, c9, F9⟩) (HI8.out.fr HE9.out) HI9.out (by have := HL8.out; show F8.length ≤ _; omega))
        simp only at HSM
        refine wpAnyK_one (i := 19) (by kernel_rfl) rfl rfl ?_
        refine wp_call_to (some 57) rfl 9 #[.slice p8 F8.length c8, .slice p9 F9.length c9] (by go_simp) HSM.out ?_
        rintro e WA ⟨rfl, fA⟩
        refine ⟨_, rfl, fun h => absurd h (by decide), ?_⟩
        simp only [Act.put, List.setIfInBounds_toArray, List.set_cons_zero, List.set_cons_succ]
        rw [show decide (F8.map Ft.fa = F9.map Ft.fa) = true from decide_eq_true (two_whole (a := ⟨p5, c5, F5⟩) (b := ⟨p6, c6, F6⟩) HRP.out HRQ.out HMT.out rfl rfl HO5.out HO6.out HO8.out HO9.out)]
        have HFA := hide (((HFV.out.trans HV9.out).trans fA).mono (Y := fun _ => False) (by simp))
        clear fA
        refine wpAnyK_one (i := 20) (by kernel_rfl) rfl rfl ?_
        go_simp
        refine wpAnyK_one (i := 21) (by kernel_rfl) rfl rfl ?_
        go_simp
        refine wpAnyK_done (by kernel_rfl) ?_ _
        clear hS HP HQ HPW HQW HFV HF7 HSM q0 q1 q2 q3
        go_wp2
        go_ret
        exact ⟨rfl, HFA.out⟩
      · go_wp2
        go_ret
        exact ⟨rfl, HF7.out⟩
    · have hrq' : rightB q = false := by simpa using hrq
      rw [hrq']
      go_wp2
      go_ret
      exact ⟨rfl, HF7.out⟩
  · have hrp' : rightB p = false := by simpa using hrp
    rw [hrp']
    go_wp2
    go_ret
    exact ⟨rfl, HF6.out⟩
end Go.Proofs.YtlapifncplbcnabGreat
