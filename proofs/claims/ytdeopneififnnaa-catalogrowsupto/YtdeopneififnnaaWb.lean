/- The document's Check. -/
import Derived.Test.YtdeopneififnnaaWa
namespace Go.Proofs.Ytdeopneififnnaa
open Go.RowKit
set_option maxRecDepth 100000
set_option linter.unusedVariables false
set_option linter.unusedSimpArgs false

set_option maxHeartbeats 32000000 in
theorem check_ref {P : Nat → Prop} {w : World} (id : Int) (nm : ByteArray) (ca : Option Addr) (cn cc : Nat) (C : List Cn) (ka : Option Addr) (kn kc : Nat) (K : List ByteArray) (ix : Bool) (ht : TabIn P w ⟨id, nm, ca, cn, cc, C, ka, kn, kc, K, ix⟩) : Calls Try.prog 18 #[(⟨id, nm, ca, cn, cc, C, ka, kn, kc, K, ix⟩ : Tb).agg] w fun e w' => e = .returned (.int .i64 (chkP nm C K)) ∧ Fr w w' (fun _ => False) := by
  obtain ⟨w1, hw1⟩ : ∃ w1, w1 = w.alloc (.cells #[.int .i64 id, .string nm, .slice ca cn cc, .slice ka kn kc, .bool ix] 43) := ⟨_, rfl⟩
  have b1 : BoxD w1 w.heap.size ⟨id, nm, ca, cn, cc, C, ka, kn, kc, K, ix⟩ := by rw [hw1]; exact heap_alloc_new w _
  have f1 : Fr w w1 (fun _ => False) := by rw [hw1]; exact Fr.alloc w _ _
  obtain ⟨x0, x1, x2, x3, x4⟩ := b1.cells
  dsimp only at x0 x1 x2 x3 x4
  have HB := hide b1
  have HF := hide f1
  have HT := hide (ht.fr f1 (fun _ _ h => h))
  have HCN : Hid (C.length = cn) := hide ht.cn
  have HKN : Hid (K.length = kn) := hide ht.kn
  have hcb : cn ≤ 1048576 := ht.cb
  have hkb : kn ≤ 1048576 := ht.kb
  have HWR := hide (wrong_ref nm w1)
  have HW := hide hw1
  clear b1 f1 hw1 ht
  unfold Tb.agg
  dsimp only
  go_enter Try.func18, Try.ntmps18
  go_wp2_with (rw [← HW.out]; clear HW)
  refine HWR.out.mono ?_
  rintro e w2 ⟨rfl, f2⟩
  have HF2 := hide f2
  obtain ⟨nb, hnb⟩ : ∃ nb, nb = !nameP nm := ⟨_, rfl⟩
  rw [← hnb]
  have HNB := hide hnb
  clear HWR f2 hnb x0 x1 x2 x3 x4
  go_wp2_with fail
  go_loopw [3, 4, 5, 6] (fun bv kv tv ix wr => ∃ j : Nat, j ≤ cn ∧ bv = .bool (badB nm C j) ∧ kv = .bool (kinB C j) ∧ tv = .bool (dupF (C.map Cn.name) j) ∧ ix = .int .i64 (j : Int) ∧ Fr w1 wr (fun _ => False)) (fun _ _ _ ix _ => cn - (intOf ix).toNat)
  case atStart => exact ⟨0, Nat.zero_le _, by rw [HNB.out]; simp [badB], rfl, rfl, rfl, HF2.out⟩
  case round =>
    rename World => W
    obtain ⟨j, hj, rfl, rfl, rfl, rfl, hf⟩ := hrel
    have HFW := hide hf
    clear hf
    obtain ⟨x0, x1, x2, x3, x4⟩ := (HB.out.fr HFW.out (fun h => h)).cells
    dsimp only at x0 x1 x2 x3 x4
    rcases Nat.lt_or_ge j cn with hlt | hge
    · obtain ⟨x, hx⟩ : ∃ x, C[j]? = some x := ⟨_, List.getElem?_eq_getElem (by rw [HCN.out]; exact hlt)⟩
      obtain ⟨g, off, ha, _, e0, e1⟩ := (HT.out.cols.fr HFW.out (fun _ _ h => h)) j x hx
      dsimp only at ha
      subst ha
      have HX := hide hx
      have HNX : Hid ((C.map Cn.name)[j]? = some x.name) := hide (by rw [List.getElem?_map, hx]; rfl)
      obtain ⟨bd, hbd⟩ : ∃ bd, badB nm C j = bd := ⟨_, rfl⟩
      obtain ⟨kd, hkd⟩ : ∃ kd, kinB C j = kd := ⟨_, rfl⟩
      obtain ⟨td, htd⟩ : ∃ td, dupF (C.map Cn.name) j = td := ⟨_, rfl⟩
      rw [hbd, hkd, htd]
      have HBD := hide hbd
      have HKD := hide hkd
      have HTD := hide htd
      clear hx hbd hkd htd
      cases bd
      · have HWR := hide (wrong_ref x.name W)
        go_wp2_with fail
        refine HWR.out.mono ?_
        rintro e V ⟨rfl, fV⟩
        have HFV := hide (HFW.out.two fV)
        clear HWR fV x0 x1 x2 x3 x4 e0 e1
        obtain ⟨x0, x1, x2, x3, x4⟩ := (HB.out.fr HFV.out (fun h => h)).cells
        obtain ⟨g', off', ha', _, e0, e1⟩ := (HT.out.cols.fr HFV.out (fun _ _ h => h)) j x HX.out
        dsimp only at x0 x1 x2 x3 x4 ha'
        cases ha'
        obtain ⟨nb, hnb⟩ : ∃ nb, nb = !nameP x.name := ⟨_, rfl⟩
        rw [← hnb]
        have HNB := hide hnb
        clear hnb
        cases kd
        · have hkp : kindP x = (decide (x.kind = 1) || decide (x.kind = 2)) := rfl
          by_cases k1 : x.kind = 1
          · have HKP : Hid (kindP x = true) := hide (by rw [hkp, k1]; rfl)
            have k1b : (x.kind == 1) = true := by simpa using k1
            have k1n : (x.kind != 1) = false := by simpa using k1
            clear hkp
            go_wp2_with fail
            cases td
            · have HBV := hide ((HB.out.fr HFV.out (fun h => h)).fr (Fr.drew V (fun _ => False)) (fun h => h))
              have HCV := hide ((HT.out.cols.fr HFV.out (fun _ _ h => h)).fr (Fr.drew V (fun _ => False)) (fun _ _ h => h))
              refine wp_region_K (fun _ => true) (fun U : World => Fr V.drew U (fun _ => False)) (by kernel_rfl) ?_
              have hS : (fun U : World => Fr V.drew U (fun _ => False)) V.drew := Fr.refl _ _
              refine wpAnyK_takeTo 0 (some 49) (.bool false) [1, 2, 3, 4, 5, 6, 7, 8, 9, 10, 11, 12, 13] rfl rfl (by kernel_rfl) (by kernel_rfl) (by kernel_rfl) (by kernel_rfl) (fun _ _ _ h => h) hS (Or.inl ⟨rfl, fun w1 hw1 => by have hw1 : Fr V.drew w1 (fun _ => False) := hw1; obtain ⟨x0, x1, x2, x3, x4⟩ := (HBV.out.fr hw1 (fun h => h)).cells; dsimp only at x0 x1 x2 x3 x4; obtain ⟨g', off', ha', _, e0, e1⟩ := (HCV.out.fr hw1 (fun _ _ h => h)) j x HX.out; dsimp only at ha'; cases ha'; go_simp⟩) ?_
              simp only [Act.put, List.setIfInBounds_toArray, List.set_cons_zero, List.set_cons_succ]
              refine wpAnyK_takeTo 1 (some 50) (.bool false) [2, 3, 4, 5, 6, 7, 8, 9, 10, 11, 12, 13] rfl rfl (by kernel_rfl) (by kernel_rfl) (by kernel_rfl) (by kernel_rfl) (fun _ _ _ h => h) hS (Or.inl ⟨rfl, fun w1 hw1 => by have hw1 : Fr V.drew w1 (fun _ => False) := hw1; obtain ⟨x0, x1, x2, x3, x4⟩ := (HBV.out.fr hw1 (fun h => h)).cells; dsimp only at x0 x1 x2 x3 x4; obtain ⟨g', off', ha', _, e0, e1⟩ := (HCV.out.fr hw1 (fun _ _ h => h)) j x HX.out; dsimp only at ha'; cases ha'; go_simp⟩) ?_
              simp only [Act.put, List.setIfInBounds_toArray, List.set_cons_zero, List.set_cons_succ]
              refine wpAnyK_takeTo 2 (some 51) (.agg #[.int .i64 id, .string nm, .slice (some ⟨g, off, none⟩) cn cc, .slice ka kn kc, .bool ix]) [9, 11, 12, 13] rfl rfl (by kernel_rfl) (by kernel_rfl) (by kernel_rfl) (by kernel_rfl) (fun _ _ _ h => h) hS (Or.inl ⟨rfl, fun w1 hw1 => by have hw1 : Fr V.drew w1 (fun _ => False) := hw1; obtain ⟨x0, x1, x2, x3, x4⟩ := (HBV.out.fr hw1 (fun h => h)).cells; dsimp only at x0 x1 x2 x3 x4; obtain ⟨g', off', ha', _, e0, e1⟩ := (HCV.out.fr hw1 (fun _ _ h => h)) j x HX.out; dsimp only at ha'; cases ha'; go_simp⟩) ?_
              simp only [Act.put, List.setIfInBounds_toArray, List.set_cons_zero, List.set_cons_succ]
              refine wpAnyK_takeTo 3 (some 52) (.pointer (some ⟨w.heap.size, 2, none⟩)) [4, 6, 7, 8, 9, 11, 12, 13] rfl rfl (by kernel_rfl) (by kernel_rfl) (by kernel_rfl) (by kernel_rfl) (fun _ _ _ h => h) hS (Or.inl ⟨rfl, fun w1 hw1 => by have hw1 : Fr V.drew w1 (fun _ => False) := hw1; obtain ⟨x0, x1, x2, x3, x4⟩ := (HBV.out.fr hw1 (fun h => h)).cells; dsimp only at x0 x1 x2 x3 x4; obtain ⟨g', off', ha', _, e0, e1⟩ := (HCV.out.fr hw1 (fun _ _ h => h)) j x HX.out; dsimp only at ha'; cases ha'; go_simp⟩) ?_
              simp only [Act.put, List.setIfInBounds_toArray, List.set_cons_zero, List.set_cons_succ]
              refine wpAnyK_takeTo 4 (some 53) (.slice (some ⟨g, off, none⟩) cn cc) [6, 7, 8, 9, 11, 12, 13] rfl rfl (by kernel_rfl) (by kernel_rfl) (by kernel_rfl) (by kernel_rfl) (fun _ _ _ h => h) hS (Or.inl ⟨rfl, fun w1 hw1 => by have hw1 : Fr V.drew w1 (fun _ => False) := hw1; obtain ⟨x0, x1, x2, x3, x4⟩ := (HBV.out.fr hw1 (fun h => h)).cells; dsimp only at x0 x1 x2 x3 x4; obtain ⟨g', off', ha', _, e0, e1⟩ := (HCV.out.fr hw1 (fun _ _ h => h)) j x HX.out; dsimp only at ha'; cases ha'; go_simp⟩) ?_
              simp only [Act.put, List.setIfInBounds_toArray, List.set_cons_zero, List.set_cons_succ]
              refine wpAnyK_takeTo 5 (some 54) (.int .i64 (j : Int)) [6, 7, 8, 9, 11, 12, 13] rfl rfl (by kernel_rfl) (by kernel_rfl) (by kernel_rfl) (by kernel_rfl) (fun _ _ _ h => h) hS (Or.inl ⟨rfl, fun w1 hw1 => by have hw1 : Fr V.drew w1 (fun _ => False) := hw1; obtain ⟨x0, x1, x2, x3, x4⟩ := (HBV.out.fr hw1 (fun h => h)).cells; dsimp only at x0 x1 x2 x3 x4; obtain ⟨g', off', ha', _, e0, e1⟩ := (HCV.out.fr hw1 (fun _ _ h => h)) j x HX.out; dsimp only at ha'; cases ha'; go_simp⟩) ?_
              simp only [Act.put, List.setIfInBounds_toArray, List.set_cons_zero, List.set_cons_succ]
              refine wpAnyK_takeTo 6 (some 55) (.pointer (some ⟨g, off + j * 2, none⟩)) [7, 8, 9, 11, 12, 13] rfl rfl (by kernel_rfl) (by kernel_rfl) (by kernel_rfl) (by kernel_rfl) (fun _ _ _ h => h) hS (Or.inl ⟨rfl, fun w1 hw1 => by have hw1 : Fr V.drew w1 (fun _ => False) := hw1; obtain ⟨x0, x1, x2, x3, x4⟩ := (HBV.out.fr hw1 (fun h => h)).cells; dsimp only at x0 x1 x2 x3 x4; obtain ⟨g', off', ha', _, e0, e1⟩ := (HCV.out.fr hw1 (fun _ _ h => h)) j x HX.out; dsimp only at ha'; cases ha'; go_simp⟩) ?_
              simp only [Act.put, List.setIfInBounds_toArray, List.set_cons_zero, List.set_cons_succ]
              refine wpAnyK_takeTo 7 (some 56) (.pointer (some ⟨g, off + j * 2, none⟩)) [8, 9, 11, 12, 13] rfl rfl (by kernel_rfl) (by kernel_rfl) (by kernel_rfl) (by kernel_rfl) (fun _ _ _ h => h) hS (Or.inl ⟨rfl, fun w1 hw1 => by have hw1 : Fr V.drew w1 (fun _ => False) := hw1; obtain ⟨x0, x1, x2, x3, x4⟩ := (HBV.out.fr hw1 (fun h => h)).cells; dsimp only at x0 x1 x2 x3 x4; obtain ⟨g', off', ha', _, e0, e1⟩ := (HCV.out.fr hw1 (fun _ _ h => h)) j x HX.out; dsimp only at ha'; cases ha'; go_simp⟩) ?_
              simp only [Act.put, List.setIfInBounds_toArray, List.set_cons_zero, List.set_cons_succ]
              refine wpAnyK_takeTo 8 (some 57) (.string x.name) [9, 11, 12, 13] rfl rfl (by kernel_rfl) (by kernel_rfl) (by kernel_rfl) (by kernel_rfl) (fun _ _ _ h => h) hS (Or.inl ⟨rfl, fun w1 hw1 => by have hw1 : Fr V.drew w1 (fun _ => False) := hw1; obtain ⟨x0, x1, x2, x3, x4⟩ := (HBV.out.fr hw1 (fun h => h)).cells; dsimp only at x0 x1 x2 x3 x4; obtain ⟨g', off', ha', _, e0, e1⟩ := (HCV.out.fr hw1 (fun _ _ h => h)) j x HX.out; dsimp only at ha'; cases ha'; go_simp⟩) ?_
              simp only [Act.put, List.setIfInBounds_toArray, List.set_cons_zero, List.set_cons_succ]
              refine wpAnyK_takeTo 10 (some 59) (.int .i64 (j : Int)) [11, 12, 13] rfl rfl (by kernel_rfl) (by kernel_rfl) (by kernel_rfl) (by kernel_rfl) (fun _ _ _ h => h) hS (Or.inl ⟨rfl, fun w1 hw1 => by have hw1 : Fr V.drew w1 (fun _ => False) := hw1; obtain ⟨x0, x1, x2, x3, x4⟩ := (HBV.out.fr hw1 (fun h => h)).cells; dsimp only at x0 x1 x2 x3 x4; obtain ⟨g', off', ha', _, e0, e1⟩ := (HCV.out.fr hw1 (fun _ _ h => h)) j x HX.out; dsimp only at ha'; cases ha'; go_simp⟩) ?_
              simp only [Act.put, List.setIfInBounds_toArray, List.set_cons_zero, List.set_cons_succ]
              refine wpAnyK_one (i := 9) (by kernel_rfl) rfl rfl ?_
              refine wp_call_to (some 58) rfl 20 #[.agg #[.int .i64 id, .string nm, .slice (some ⟨g, off, none⟩) cn cc, .slice ka kn kc, .bool ix], .string x.name] (by go_simp) (place_ref ⟨id, nm, some ⟨g, off, none⟩, cn, cc, C, ka, kn, kc, K, ix⟩ HCV.out HT.out.cn HT.out.cb x.name) ?_
              rintro e Z ⟨r, rfl, hr, g1⟩
              refine ⟨_, rfl, fun _ => g1, ?_⟩
              have hd := place_dup HX.out hr
              obtain ⟨d, hd2⟩ : ∃ d, d = decide (r < (j : Int)) := ⟨_, rfl⟩
              rw [← hd2] at hd
              have HD := hide hd
              replace hd2 := hd2.symm
              clear hd hr
              replace hS : (fun U : World => Fr V.drew U (fun _ => False)) Z := g1
              simp only [Act.put, List.setIfInBounds_toArray, List.set_cons_zero, List.set_cons_succ]
              refine wpAnyK_takeTo 11 (some 60) (.bool d) [12, 13] rfl rfl (by kernel_rfl) (by kernel_rfl) (by kernel_rfl) (by kernel_rfl) (fun _ _ _ h => h) hS (Or.inl ⟨rfl, fun w1 hw1 => by go_simp⟩) ?_
              simp only [Act.put, List.setIfInBounds_toArray, List.set_cons_zero, List.set_cons_succ]
              refine wpAnyK_takeTo 12 (some 61) (.bool d) [13] rfl rfl (by kernel_rfl) (by kernel_rfl) (by kernel_rfl) (by kernel_rfl) (fun _ _ _ h => h) hS (Or.inl ⟨rfl, fun w1 hw1 => by go_simp⟩) ?_
              simp only [Act.put, List.setIfInBounds_toArray, List.set_cons_zero, List.set_cons_succ]
              refine wpAnyK_takeTo 13 (some 5) (.bool d) [] rfl rfl (by kernel_rfl) (by kernel_rfl) (by kernel_rfl) (by kernel_rfl) (fun _ _ _ h => h) hS (Or.inl ⟨rfl, fun w1 hw1 => by go_simp⟩) ?_
              simp only [Act.put, List.setIfInBounds_toArray, List.set_cons_zero, List.set_cons_succ]
              refine wpAnyK_done (by kernel_rfl) ?_ _
              have HFZ := hide ((HFV.out.two (Fr.drew V _)).two g1)
              clear hS g1 hd2 HBV HCV
              go_wp2
              go_roundw
              case rel => exact ⟨j + 1, by omega, by rw [badB_step HX.out, HBD.out, HNB.out, Bool.false_or], by rw [kinB_step HX.out, HKD.out, HKP.out]; rfl, by rw [dupF_step HNX.out, HTD.out, HD.out, Bool.false_or], by go_num, HFZ.out⟩
              case measure => simp [intOf]; omega
            · have HBV := hide ((HB.out.fr HFV.out (fun h => h)).fr (Fr.drew V (fun _ => False)) (fun h => h))
              have HCV := hide ((HT.out.cols.fr HFV.out (fun _ _ h => h)).fr (Fr.drew V (fun _ => False)) (fun _ _ h => h))
              refine wp_region_K (fun _ => true) (fun U : World => Fr V.drew U (fun _ => False)) (by kernel_rfl) ?_
              have hS : (fun U : World => Fr V.drew U (fun _ => False)) V.drew := Fr.refl _ _
              refine wpAnyK_takeTo 0 (some 49) (.bool true) [1, 2, 3, 4, 5, 6, 7, 8, 9, 10, 11, 12, 13] rfl rfl (by kernel_rfl) (by kernel_rfl) (by kernel_rfl) (by kernel_rfl) (fun _ _ _ h => h) hS (Or.inl ⟨rfl, fun w1 hw1 => by go_simp⟩) ?_
              simp only [Act.put, List.setIfInBounds_toArray, List.set_cons_zero, List.set_cons_succ]
              refine wpAnyK_takeTo 1 (some 50) (.bool true) [2, 3, 4, 5, 6, 7, 8, 9, 10, 11, 12, 13] rfl rfl (by kernel_rfl) (by kernel_rfl) (by kernel_rfl) (by kernel_rfl) (fun _ _ _ h => h) hS (Or.inl ⟨rfl, fun w1 hw1 => by go_simp⟩) ?_
              simp only [Act.put, List.setIfInBounds_toArray, List.set_cons_zero, List.set_cons_succ]
              refine wpAnyK_takeTo 2 (some 51) (undef) [9, 11, 12, 13] rfl rfl (by kernel_rfl) (by kernel_rfl) (by kernel_rfl) (by kernel_rfl) (fun _ _ _ h => h) hS (Or.inr ⟨rfl, rfl⟩) ?_
              simp only [Act.put, List.setIfInBounds_toArray, List.set_cons_zero, List.set_cons_succ]
              refine wpAnyK_takeTo 3 (some 52) (undef) [4, 6, 7, 8, 9, 11, 12, 13] rfl rfl (by kernel_rfl) (by kernel_rfl) (by kernel_rfl) (by kernel_rfl) (fun _ _ _ h => h) hS (Or.inr ⟨rfl, rfl⟩) ?_
              simp only [Act.put, List.setIfInBounds_toArray, List.set_cons_zero, List.set_cons_succ]
              refine wpAnyK_takeTo 4 (some 53) (undef) [6, 7, 8, 9, 11, 12, 13] rfl rfl (by kernel_rfl) (by kernel_rfl) (by kernel_rfl) (by kernel_rfl) (fun _ _ _ h => h) hS (Or.inr ⟨rfl, rfl⟩) ?_
              simp only [Act.put, List.setIfInBounds_toArray, List.set_cons_zero, List.set_cons_succ]
              refine wpAnyK_takeTo 5 (some 54) (undef) [6, 7, 8, 9, 11, 12, 13] rfl rfl (by kernel_rfl) (by kernel_rfl) (by kernel_rfl) (by kernel_rfl) (fun _ _ _ h => h) hS (Or.inr ⟨rfl, rfl⟩) ?_
              simp only [Act.put, List.setIfInBounds_toArray, List.set_cons_zero, List.set_cons_succ]
              refine wpAnyK_takeTo 6 (some 55) (undef) [7, 8, 9, 11, 12, 13] rfl rfl (by kernel_rfl) (by kernel_rfl) (by kernel_rfl) (by kernel_rfl) (fun _ _ _ h => h) hS (Or.inr ⟨rfl, rfl⟩) ?_
              simp only [Act.put, List.setIfInBounds_toArray, List.set_cons_zero, List.set_cons_succ]
              refine wpAnyK_takeTo 7 (some 56) (undef) [8, 9, 11, 12, 13] rfl rfl (by kernel_rfl) (by kernel_rfl) (by kernel_rfl) (by kernel_rfl) (fun _ _ _ h => h) hS (Or.inr ⟨rfl, rfl⟩) ?_
              simp only [Act.put, List.setIfInBounds_toArray, List.set_cons_zero, List.set_cons_succ]
              refine wpAnyK_takeTo 8 (some 57) (undef) [9, 11, 12, 13] rfl rfl (by kernel_rfl) (by kernel_rfl) (by kernel_rfl) (by kernel_rfl) (fun _ _ _ h => h) hS (Or.inr ⟨rfl, rfl⟩) ?_
              simp only [Act.put, List.setIfInBounds_toArray, List.set_cons_zero, List.set_cons_succ]
              refine wpAnyK_takeTo 9 (some 58) (undef) [11, 12, 13] rfl rfl (by kernel_rfl) (by kernel_rfl) (by kernel_rfl) (by kernel_rfl) (fun _ _ _ h => h) hS (Or.inr ⟨rfl, rfl⟩) ?_
              simp only [Act.put, List.setIfInBounds_toArray, List.set_cons_zero, List.set_cons_succ]
              refine wpAnyK_takeTo 10 (some 59) (undef) [11, 12, 13] rfl rfl (by kernel_rfl) (by kernel_rfl) (by kernel_rfl) (by kernel_rfl) (fun _ _ _ h => h) hS (Or.inr ⟨rfl, rfl⟩) ?_
              simp only [Act.put, List.setIfInBounds_toArray, List.set_cons_zero, List.set_cons_succ]
              refine wpAnyK_takeTo 11 (some 60) (undef) [12, 13] rfl rfl (by kernel_rfl) (by kernel_rfl) (by kernel_rfl) (by kernel_rfl) (fun _ _ _ h => h) hS (Or.inr ⟨rfl, rfl⟩) ?_
              simp only [Act.put, List.setIfInBounds_toArray, List.set_cons_zero, List.set_cons_succ]
              refine wpAnyK_takeTo 12 (some 61) (.bool true) [13] rfl rfl (by kernel_rfl) (by kernel_rfl) (by kernel_rfl) (by kernel_rfl) (fun _ _ _ h => h) hS (Or.inl ⟨rfl, fun w1 hw1 => by go_simp⟩) ?_
              simp only [Act.put, List.setIfInBounds_toArray, List.set_cons_zero, List.set_cons_succ]
              refine wpAnyK_takeTo 13 (some 5) (.bool true) [] rfl rfl (by kernel_rfl) (by kernel_rfl) (by kernel_rfl) (by kernel_rfl) (fun _ _ _ h => h) hS (Or.inl ⟨rfl, fun w1 hw1 => by go_simp⟩) ?_
              simp only [Act.put, List.setIfInBounds_toArray, List.set_cons_zero, List.set_cons_succ]
              refine wpAnyK_done (by kernel_rfl) ?_ _
              have HFZ := hide (HFV.out.two (Fr.drew V (fun _ => False)))
              clear hS HBV HCV
              go_wp2
              go_roundw
              case rel => exact ⟨j + 1, by omega, by rw [badB_step HX.out, HBD.out, HNB.out, Bool.false_or], by rw [kinB_step HX.out, HKD.out, HKP.out]; rfl, by rw [dupF_step HNX.out, HTD.out, Bool.true_or], by go_num, HFZ.out⟩
              case measure => simp [intOf]; omega
          · have k1b : (x.kind == 1) = false := by simpa using k1
            have k1n : (x.kind != 1) = true := by simpa using k1
            by_cases k2 : x.kind = 2
            · have HKP : Hid (kindP x = true) := hide (by rw [hkp, k2]; rfl)
              have k2b : (x.kind == 2) = true := by simpa using k2
              have k2n : (x.kind != 2) = false := by simpa using k2
              clear hkp
              go_wp2_with fail
              cases td
              · have HBV := hide ((HB.out.fr HFV.out (fun h => h)).fr (Fr.drew V (fun _ => False)) (fun h => h))
                have HCV := hide ((HT.out.cols.fr HFV.out (fun _ _ h => h)).fr (Fr.drew V (fun _ => False)) (fun _ _ h => h))
                refine wp_region_K (fun _ => true) (fun U : World => Fr V.drew U (fun _ => False)) (by kernel_rfl) ?_
                have hS : (fun U : World => Fr V.drew U (fun _ => False)) V.drew := Fr.refl _ _
                refine wpAnyK_takeTo 0 (some 49) (.bool false) [1, 2, 3, 4, 5, 6, 7, 8, 9, 10, 11, 12, 13] rfl rfl (by kernel_rfl) (by kernel_rfl) (by kernel_rfl) (by kernel_rfl) (fun _ _ _ h => h) hS (Or.inl ⟨rfl, fun w1 hw1 => by have hw1 : Fr V.drew w1 (fun _ => False) := hw1; obtain ⟨x0, x1, x2, x3, x4⟩ := (HBV.out.fr hw1 (fun h => h)).cells; dsimp only at x0 x1 x2 x3 x4; obtain ⟨g', off', ha', _, e0, e1⟩ := (HCV.out.fr hw1 (fun _ _ h => h)) j x HX.out; dsimp only at ha'; cases ha'; go_simp⟩) ?_
                simp only [Act.put, List.setIfInBounds_toArray, List.set_cons_zero, List.set_cons_succ]
                refine wpAnyK_takeTo 1 (some 50) (.bool false) [2, 3, 4, 5, 6, 7, 8, 9, 10, 11, 12, 13] rfl rfl (by kernel_rfl) (by kernel_rfl) (by kernel_rfl) (by kernel_rfl) (fun _ _ _ h => h) hS (Or.inl ⟨rfl, fun w1 hw1 => by have hw1 : Fr V.drew w1 (fun _ => False) := hw1; obtain ⟨x0, x1, x2, x3, x4⟩ := (HBV.out.fr hw1 (fun h => h)).cells; dsimp only at x0 x1 x2 x3 x4; obtain ⟨g', off', ha', _, e0, e1⟩ := (HCV.out.fr hw1 (fun _ _ h => h)) j x HX.out; dsimp only at ha'; cases ha'; go_simp⟩) ?_
                simp only [Act.put, List.setIfInBounds_toArray, List.set_cons_zero, List.set_cons_succ]
                refine wpAnyK_takeTo 2 (some 51) (.agg #[.int .i64 id, .string nm, .slice (some ⟨g, off, none⟩) cn cc, .slice ka kn kc, .bool ix]) [9, 11, 12, 13] rfl rfl (by kernel_rfl) (by kernel_rfl) (by kernel_rfl) (by kernel_rfl) (fun _ _ _ h => h) hS (Or.inl ⟨rfl, fun w1 hw1 => by have hw1 : Fr V.drew w1 (fun _ => False) := hw1; obtain ⟨x0, x1, x2, x3, x4⟩ := (HBV.out.fr hw1 (fun h => h)).cells; dsimp only at x0 x1 x2 x3 x4; obtain ⟨g', off', ha', _, e0, e1⟩ := (HCV.out.fr hw1 (fun _ _ h => h)) j x HX.out; dsimp only at ha'; cases ha'; go_simp⟩) ?_
                simp only [Act.put, List.setIfInBounds_toArray, List.set_cons_zero, List.set_cons_succ]
                refine wpAnyK_takeTo 3 (some 52) (.pointer (some ⟨w.heap.size, 2, none⟩)) [4, 6, 7, 8, 9, 11, 12, 13] rfl rfl (by kernel_rfl) (by kernel_rfl) (by kernel_rfl) (by kernel_rfl) (fun _ _ _ h => h) hS (Or.inl ⟨rfl, fun w1 hw1 => by have hw1 : Fr V.drew w1 (fun _ => False) := hw1; obtain ⟨x0, x1, x2, x3, x4⟩ := (HBV.out.fr hw1 (fun h => h)).cells; dsimp only at x0 x1 x2 x3 x4; obtain ⟨g', off', ha', _, e0, e1⟩ := (HCV.out.fr hw1 (fun _ _ h => h)) j x HX.out; dsimp only at ha'; cases ha'; go_simp⟩) ?_
                simp only [Act.put, List.setIfInBounds_toArray, List.set_cons_zero, List.set_cons_succ]
                refine wpAnyK_takeTo 4 (some 53) (.slice (some ⟨g, off, none⟩) cn cc) [6, 7, 8, 9, 11, 12, 13] rfl rfl (by kernel_rfl) (by kernel_rfl) (by kernel_rfl) (by kernel_rfl) (fun _ _ _ h => h) hS (Or.inl ⟨rfl, fun w1 hw1 => by have hw1 : Fr V.drew w1 (fun _ => False) := hw1; obtain ⟨x0, x1, x2, x3, x4⟩ := (HBV.out.fr hw1 (fun h => h)).cells; dsimp only at x0 x1 x2 x3 x4; obtain ⟨g', off', ha', _, e0, e1⟩ := (HCV.out.fr hw1 (fun _ _ h => h)) j x HX.out; dsimp only at ha'; cases ha'; go_simp⟩) ?_
                simp only [Act.put, List.setIfInBounds_toArray, List.set_cons_zero, List.set_cons_succ]
                refine wpAnyK_takeTo 5 (some 54) (.int .i64 (j : Int)) [6, 7, 8, 9, 11, 12, 13] rfl rfl (by kernel_rfl) (by kernel_rfl) (by kernel_rfl) (by kernel_rfl) (fun _ _ _ h => h) hS (Or.inl ⟨rfl, fun w1 hw1 => by have hw1 : Fr V.drew w1 (fun _ => False) := hw1; obtain ⟨x0, x1, x2, x3, x4⟩ := (HBV.out.fr hw1 (fun h => h)).cells; dsimp only at x0 x1 x2 x3 x4; obtain ⟨g', off', ha', _, e0, e1⟩ := (HCV.out.fr hw1 (fun _ _ h => h)) j x HX.out; dsimp only at ha'; cases ha'; go_simp⟩) ?_
                simp only [Act.put, List.setIfInBounds_toArray, List.set_cons_zero, List.set_cons_succ]
                refine wpAnyK_takeTo 6 (some 55) (.pointer (some ⟨g, off + j * 2, none⟩)) [7, 8, 9, 11, 12, 13] rfl rfl (by kernel_rfl) (by kernel_rfl) (by kernel_rfl) (by kernel_rfl) (fun _ _ _ h => h) hS (Or.inl ⟨rfl, fun w1 hw1 => by have hw1 : Fr V.drew w1 (fun _ => False) := hw1; obtain ⟨x0, x1, x2, x3, x4⟩ := (HBV.out.fr hw1 (fun h => h)).cells; dsimp only at x0 x1 x2 x3 x4; obtain ⟨g', off', ha', _, e0, e1⟩ := (HCV.out.fr hw1 (fun _ _ h => h)) j x HX.out; dsimp only at ha'; cases ha'; go_simp⟩) ?_
                simp only [Act.put, List.setIfInBounds_toArray, List.set_cons_zero, List.set_cons_succ]
                refine wpAnyK_takeTo 7 (some 56) (.pointer (some ⟨g, off + j * 2, none⟩)) [8, 9, 11, 12, 13] rfl rfl (by kernel_rfl) (by kernel_rfl) (by kernel_rfl) (by kernel_rfl) (fun _ _ _ h => h) hS (Or.inl ⟨rfl, fun w1 hw1 => by have hw1 : Fr V.drew w1 (fun _ => False) := hw1; obtain ⟨x0, x1, x2, x3, x4⟩ := (HBV.out.fr hw1 (fun h => h)).cells; dsimp only at x0 x1 x2 x3 x4; obtain ⟨g', off', ha', _, e0, e1⟩ := (HCV.out.fr hw1 (fun _ _ h => h)) j x HX.out; dsimp only at ha'; cases ha'; go_simp⟩) ?_
                simp only [Act.put, List.setIfInBounds_toArray, List.set_cons_zero, List.set_cons_succ]
                refine wpAnyK_takeTo 8 (some 57) (.string x.name) [9, 11, 12, 13] rfl rfl (by kernel_rfl) (by kernel_rfl) (by kernel_rfl) (by kernel_rfl) (fun _ _ _ h => h) hS (Or.inl ⟨rfl, fun w1 hw1 => by have hw1 : Fr V.drew w1 (fun _ => False) := hw1; obtain ⟨x0, x1, x2, x3, x4⟩ := (HBV.out.fr hw1 (fun h => h)).cells; dsimp only at x0 x1 x2 x3 x4; obtain ⟨g', off', ha', _, e0, e1⟩ := (HCV.out.fr hw1 (fun _ _ h => h)) j x HX.out; dsimp only at ha'; cases ha'; go_simp⟩) ?_
                simp only [Act.put, List.setIfInBounds_toArray, List.set_cons_zero, List.set_cons_succ]
                refine wpAnyK_takeTo 10 (some 59) (.int .i64 (j : Int)) [11, 12, 13] rfl rfl (by kernel_rfl) (by kernel_rfl) (by kernel_rfl) (by kernel_rfl) (fun _ _ _ h => h) hS (Or.inl ⟨rfl, fun w1 hw1 => by have hw1 : Fr V.drew w1 (fun _ => False) := hw1; obtain ⟨x0, x1, x2, x3, x4⟩ := (HBV.out.fr hw1 (fun h => h)).cells; dsimp only at x0 x1 x2 x3 x4; obtain ⟨g', off', ha', _, e0, e1⟩ := (HCV.out.fr hw1 (fun _ _ h => h)) j x HX.out; dsimp only at ha'; cases ha'; go_simp⟩) ?_
                simp only [Act.put, List.setIfInBounds_toArray, List.set_cons_zero, List.set_cons_succ]
                refine wpAnyK_one (i := 9) (by kernel_rfl) rfl rfl ?_
                refine wp_call_to (some 58) rfl 20 #[.agg #[.int .i64 id, .string nm, .slice (some ⟨g, off, none⟩) cn cc, .slice ka kn kc, .bool ix], .string x.name] (by go_simp) (place_ref ⟨id, nm, some ⟨g, off, none⟩, cn, cc, C, ka, kn, kc, K, ix⟩ HCV.out HT.out.cn HT.out.cb x.name) ?_
                rintro e Z ⟨r, rfl, hr, g1⟩
                refine ⟨_, rfl, fun _ => g1, ?_⟩
                have hd := place_dup HX.out hr
                obtain ⟨d, hd2⟩ : ∃ d, d = decide (r < (j : Int)) := ⟨_, rfl⟩
                rw [← hd2] at hd
                have HD := hide hd
                replace hd2 := hd2.symm
                clear hd hr
                replace hS : (fun U : World => Fr V.drew U (fun _ => False)) Z := g1
                simp only [Act.put, List.setIfInBounds_toArray, List.set_cons_zero, List.set_cons_succ]
                refine wpAnyK_takeTo 11 (some 60) (.bool d) [12, 13] rfl rfl (by kernel_rfl) (by kernel_rfl) (by kernel_rfl) (by kernel_rfl) (fun _ _ _ h => h) hS (Or.inl ⟨rfl, fun w1 hw1 => by go_simp⟩) ?_
                simp only [Act.put, List.setIfInBounds_toArray, List.set_cons_zero, List.set_cons_succ]
                refine wpAnyK_takeTo 12 (some 61) (.bool d) [13] rfl rfl (by kernel_rfl) (by kernel_rfl) (by kernel_rfl) (by kernel_rfl) (fun _ _ _ h => h) hS (Or.inl ⟨rfl, fun w1 hw1 => by go_simp⟩) ?_
                simp only [Act.put, List.setIfInBounds_toArray, List.set_cons_zero, List.set_cons_succ]
                refine wpAnyK_takeTo 13 (some 5) (.bool d) [] rfl rfl (by kernel_rfl) (by kernel_rfl) (by kernel_rfl) (by kernel_rfl) (fun _ _ _ h => h) hS (Or.inl ⟨rfl, fun w1 hw1 => by go_simp⟩) ?_
                simp only [Act.put, List.setIfInBounds_toArray, List.set_cons_zero, List.set_cons_succ]
                refine wpAnyK_done (by kernel_rfl) ?_ _
                have HFZ := hide ((HFV.out.two (Fr.drew V _)).two g1)
                clear hS g1 hd2 HBV HCV
                go_wp2
                go_roundw
                case rel => exact ⟨j + 1, by omega, by rw [badB_step HX.out, HBD.out, HNB.out, Bool.false_or], by rw [kinB_step HX.out, HKD.out, HKP.out]; rfl, by rw [dupF_step HNX.out, HTD.out, HD.out, Bool.false_or], by go_num, HFZ.out⟩
                case measure => simp [intOf]; omega
              · have HBV := hide ((HB.out.fr HFV.out (fun h => h)).fr (Fr.drew V (fun _ => False)) (fun h => h))
                have HCV := hide ((HT.out.cols.fr HFV.out (fun _ _ h => h)).fr (Fr.drew V (fun _ => False)) (fun _ _ h => h))
                refine wp_region_K (fun _ => true) (fun U : World => Fr V.drew U (fun _ => False)) (by kernel_rfl) ?_
                have hS : (fun U : World => Fr V.drew U (fun _ => False)) V.drew := Fr.refl _ _
                refine wpAnyK_takeTo 0 (some 49) (.bool true) [1, 2, 3, 4, 5, 6, 7, 8, 9, 10, 11, 12, 13] rfl rfl (by kernel_rfl) (by kernel_rfl) (by kernel_rfl) (by kernel_rfl) (fun _ _ _ h => h) hS (Or.inl ⟨rfl, fun w1 hw1 => by go_simp⟩) ?_
                simp only [Act.put, List.setIfInBounds_toArray, List.set_cons_zero, List.set_cons_succ]
                refine wpAnyK_takeTo 1 (some 50) (.bool true) [2, 3, 4, 5, 6, 7, 8, 9, 10, 11, 12, 13] rfl rfl (by kernel_rfl) (by kernel_rfl) (by kernel_rfl) (by kernel_rfl) (fun _ _ _ h => h) hS (Or.inl ⟨rfl, fun w1 hw1 => by go_simp⟩) ?_
                simp only [Act.put, List.setIfInBounds_toArray, List.set_cons_zero, List.set_cons_succ]
                refine wpAnyK_takeTo 2 (some 51) (undef) [9, 11, 12, 13] rfl rfl (by kernel_rfl) (by kernel_rfl) (by kernel_rfl) (by kernel_rfl) (fun _ _ _ h => h) hS (Or.inr ⟨rfl, rfl⟩) ?_
                simp only [Act.put, List.setIfInBounds_toArray, List.set_cons_zero, List.set_cons_succ]
                refine wpAnyK_takeTo 3 (some 52) (undef) [4, 6, 7, 8, 9, 11, 12, 13] rfl rfl (by kernel_rfl) (by kernel_rfl) (by kernel_rfl) (by kernel_rfl) (fun _ _ _ h => h) hS (Or.inr ⟨rfl, rfl⟩) ?_
                simp only [Act.put, List.setIfInBounds_toArray, List.set_cons_zero, List.set_cons_succ]
                refine wpAnyK_takeTo 4 (some 53) (undef) [6, 7, 8, 9, 11, 12, 13] rfl rfl (by kernel_rfl) (by kernel_rfl) (by kernel_rfl) (by kernel_rfl) (fun _ _ _ h => h) hS (Or.inr ⟨rfl, rfl⟩) ?_
                simp only [Act.put, List.setIfInBounds_toArray, List.set_cons_zero, List.set_cons_succ]
                refine wpAnyK_takeTo 5 (some 54) (undef) [6, 7, 8, 9, 11, 12, 13] rfl rfl (by kernel_rfl) (by kernel_rfl) (by kernel_rfl) (by kernel_rfl) (fun _ _ _ h => h) hS (Or.inr ⟨rfl, rfl⟩) ?_
                simp only [Act.put, List.setIfInBounds_toArray, List.set_cons_zero, List.set_cons_succ]
                refine wpAnyK_takeTo 6 (some 55) (undef) [7, 8, 9, 11, 12, 13] rfl rfl (by kernel_rfl) (by kernel_rfl) (by kernel_rfl) (by kernel_rfl) (fun _ _ _ h => h) hS (Or.inr ⟨rfl, rfl⟩) ?_
                simp only [Act.put, List.setIfInBounds_toArray, List.set_cons_zero, List.set_cons_succ]
                refine wpAnyK_takeTo 7 (some 56) (undef) [8, 9, 11, 12, 13] rfl rfl (by kernel_rfl) (by kernel_rfl) (by kernel_rfl) (by kernel_rfl) (fun _ _ _ h => h) hS (Or.inr ⟨rfl, rfl⟩) ?_
                simp only [Act.put, List.setIfInBounds_toArray, List.set_cons_zero, List.set_cons_succ]
                refine wpAnyK_takeTo 8 (some 57) (undef) [9, 11, 12, 13] rfl rfl (by kernel_rfl) (by kernel_rfl) (by kernel_rfl) (by kernel_rfl) (fun _ _ _ h => h) hS (Or.inr ⟨rfl, rfl⟩) ?_
                simp only [Act.put, List.setIfInBounds_toArray, List.set_cons_zero, List.set_cons_succ]
                refine wpAnyK_takeTo 9 (some 58) (undef) [11, 12, 13] rfl rfl (by kernel_rfl) (by kernel_rfl) (by kernel_rfl) (by kernel_rfl) (fun _ _ _ h => h) hS (Or.inr ⟨rfl, rfl⟩) ?_
                simp only [Act.put, List.setIfInBounds_toArray, List.set_cons_zero, List.set_cons_succ]
                refine wpAnyK_takeTo 10 (some 59) (undef) [11, 12, 13] rfl rfl (by kernel_rfl) (by kernel_rfl) (by kernel_rfl) (by kernel_rfl) (fun _ _ _ h => h) hS (Or.inr ⟨rfl, rfl⟩) ?_
                simp only [Act.put, List.setIfInBounds_toArray, List.set_cons_zero, List.set_cons_succ]
                refine wpAnyK_takeTo 11 (some 60) (undef) [12, 13] rfl rfl (by kernel_rfl) (by kernel_rfl) (by kernel_rfl) (by kernel_rfl) (fun _ _ _ h => h) hS (Or.inr ⟨rfl, rfl⟩) ?_
                simp only [Act.put, List.setIfInBounds_toArray, List.set_cons_zero, List.set_cons_succ]
                refine wpAnyK_takeTo 12 (some 61) (.bool true) [13] rfl rfl (by kernel_rfl) (by kernel_rfl) (by kernel_rfl) (by kernel_rfl) (fun _ _ _ h => h) hS (Or.inl ⟨rfl, fun w1 hw1 => by go_simp⟩) ?_
                simp only [Act.put, List.setIfInBounds_toArray, List.set_cons_zero, List.set_cons_succ]
                refine wpAnyK_takeTo 13 (some 5) (.bool true) [] rfl rfl (by kernel_rfl) (by kernel_rfl) (by kernel_rfl) (by kernel_rfl) (fun _ _ _ h => h) hS (Or.inl ⟨rfl, fun w1 hw1 => by go_simp⟩) ?_
                simp only [Act.put, List.setIfInBounds_toArray, List.set_cons_zero, List.set_cons_succ]
                refine wpAnyK_done (by kernel_rfl) ?_ _
                have HFZ := hide (HFV.out.two (Fr.drew V (fun _ => False)))
                clear hS HBV HCV
                go_wp2
                go_roundw
                case rel => exact ⟨j + 1, by omega, by rw [badB_step HX.out, HBD.out, HNB.out, Bool.false_or], by rw [kinB_step HX.out, HKD.out, HKP.out]; rfl, by rw [dupF_step HNX.out, HTD.out, Bool.true_or], by go_num, HFZ.out⟩
                case measure => simp [intOf]; omega
            · have HKP : Hid (kindP x = false) := hide (by rw [hkp]; simp [k1, k2])
              have k2b : (x.kind == 2) = false := by simpa using k2
              have k2n : (x.kind != 2) = true := by simpa using k2
              clear hkp
              go_wp2_with fail
              cases td
              · have HBV := hide ((HB.out.fr HFV.out (fun h => h)).fr (Fr.drew V (fun _ => False)) (fun h => h))
                have HCV := hide ((HT.out.cols.fr HFV.out (fun _ _ h => h)).fr (Fr.drew V (fun _ => False)) (fun _ _ h => h))
                refine wp_region_K (fun _ => true) (fun U : World => Fr V.drew U (fun _ => False)) (by kernel_rfl) ?_
                have hS : (fun U : World => Fr V.drew U (fun _ => False)) V.drew := Fr.refl _ _
                refine wpAnyK_takeTo 0 (some 49) (.bool false) [1, 2, 3, 4, 5, 6, 7, 8, 9, 10, 11, 12, 13] rfl rfl (by kernel_rfl) (by kernel_rfl) (by kernel_rfl) (by kernel_rfl) (fun _ _ _ h => h) hS (Or.inl ⟨rfl, fun w1 hw1 => by have hw1 : Fr V.drew w1 (fun _ => False) := hw1; obtain ⟨x0, x1, x2, x3, x4⟩ := (HBV.out.fr hw1 (fun h => h)).cells; dsimp only at x0 x1 x2 x3 x4; obtain ⟨g', off', ha', _, e0, e1⟩ := (HCV.out.fr hw1 (fun _ _ h => h)) j x HX.out; dsimp only at ha'; cases ha'; go_simp⟩) ?_
                simp only [Act.put, List.setIfInBounds_toArray, List.set_cons_zero, List.set_cons_succ]
                refine wpAnyK_takeTo 1 (some 50) (.bool false) [2, 3, 4, 5, 6, 7, 8, 9, 10, 11, 12, 13] rfl rfl (by kernel_rfl) (by kernel_rfl) (by kernel_rfl) (by kernel_rfl) (fun _ _ _ h => h) hS (Or.inl ⟨rfl, fun w1 hw1 => by have hw1 : Fr V.drew w1 (fun _ => False) := hw1; obtain ⟨x0, x1, x2, x3, x4⟩ := (HBV.out.fr hw1 (fun h => h)).cells; dsimp only at x0 x1 x2 x3 x4; obtain ⟨g', off', ha', _, e0, e1⟩ := (HCV.out.fr hw1 (fun _ _ h => h)) j x HX.out; dsimp only at ha'; cases ha'; go_simp⟩) ?_
                simp only [Act.put, List.setIfInBounds_toArray, List.set_cons_zero, List.set_cons_succ]
                refine wpAnyK_takeTo 2 (some 51) (.agg #[.int .i64 id, .string nm, .slice (some ⟨g, off, none⟩) cn cc, .slice ka kn kc, .bool ix]) [9, 11, 12, 13] rfl rfl (by kernel_rfl) (by kernel_rfl) (by kernel_rfl) (by kernel_rfl) (fun _ _ _ h => h) hS (Or.inl ⟨rfl, fun w1 hw1 => by have hw1 : Fr V.drew w1 (fun _ => False) := hw1; obtain ⟨x0, x1, x2, x3, x4⟩ := (HBV.out.fr hw1 (fun h => h)).cells; dsimp only at x0 x1 x2 x3 x4; obtain ⟨g', off', ha', _, e0, e1⟩ := (HCV.out.fr hw1 (fun _ _ h => h)) j x HX.out; dsimp only at ha'; cases ha'; go_simp⟩) ?_
                simp only [Act.put, List.setIfInBounds_toArray, List.set_cons_zero, List.set_cons_succ]
                refine wpAnyK_takeTo 3 (some 52) (.pointer (some ⟨w.heap.size, 2, none⟩)) [4, 6, 7, 8, 9, 11, 12, 13] rfl rfl (by kernel_rfl) (by kernel_rfl) (by kernel_rfl) (by kernel_rfl) (fun _ _ _ h => h) hS (Or.inl ⟨rfl, fun w1 hw1 => by have hw1 : Fr V.drew w1 (fun _ => False) := hw1; obtain ⟨x0, x1, x2, x3, x4⟩ := (HBV.out.fr hw1 (fun h => h)).cells; dsimp only at x0 x1 x2 x3 x4; obtain ⟨g', off', ha', _, e0, e1⟩ := (HCV.out.fr hw1 (fun _ _ h => h)) j x HX.out; dsimp only at ha'; cases ha'; go_simp⟩) ?_
                simp only [Act.put, List.setIfInBounds_toArray, List.set_cons_zero, List.set_cons_succ]
                refine wpAnyK_takeTo 4 (some 53) (.slice (some ⟨g, off, none⟩) cn cc) [6, 7, 8, 9, 11, 12, 13] rfl rfl (by kernel_rfl) (by kernel_rfl) (by kernel_rfl) (by kernel_rfl) (fun _ _ _ h => h) hS (Or.inl ⟨rfl, fun w1 hw1 => by have hw1 : Fr V.drew w1 (fun _ => False) := hw1; obtain ⟨x0, x1, x2, x3, x4⟩ := (HBV.out.fr hw1 (fun h => h)).cells; dsimp only at x0 x1 x2 x3 x4; obtain ⟨g', off', ha', _, e0, e1⟩ := (HCV.out.fr hw1 (fun _ _ h => h)) j x HX.out; dsimp only at ha'; cases ha'; go_simp⟩) ?_
                simp only [Act.put, List.setIfInBounds_toArray, List.set_cons_zero, List.set_cons_succ]
                refine wpAnyK_takeTo 5 (some 54) (.int .i64 (j : Int)) [6, 7, 8, 9, 11, 12, 13] rfl rfl (by kernel_rfl) (by kernel_rfl) (by kernel_rfl) (by kernel_rfl) (fun _ _ _ h => h) hS (Or.inl ⟨rfl, fun w1 hw1 => by have hw1 : Fr V.drew w1 (fun _ => False) := hw1; obtain ⟨x0, x1, x2, x3, x4⟩ := (HBV.out.fr hw1 (fun h => h)).cells; dsimp only at x0 x1 x2 x3 x4; obtain ⟨g', off', ha', _, e0, e1⟩ := (HCV.out.fr hw1 (fun _ _ h => h)) j x HX.out; dsimp only at ha'; cases ha'; go_simp⟩) ?_
                simp only [Act.put, List.setIfInBounds_toArray, List.set_cons_zero, List.set_cons_succ]
                refine wpAnyK_takeTo 6 (some 55) (.pointer (some ⟨g, off + j * 2, none⟩)) [7, 8, 9, 11, 12, 13] rfl rfl (by kernel_rfl) (by kernel_rfl) (by kernel_rfl) (by kernel_rfl) (fun _ _ _ h => h) hS (Or.inl ⟨rfl, fun w1 hw1 => by have hw1 : Fr V.drew w1 (fun _ => False) := hw1; obtain ⟨x0, x1, x2, x3, x4⟩ := (HBV.out.fr hw1 (fun h => h)).cells; dsimp only at x0 x1 x2 x3 x4; obtain ⟨g', off', ha', _, e0, e1⟩ := (HCV.out.fr hw1 (fun _ _ h => h)) j x HX.out; dsimp only at ha'; cases ha'; go_simp⟩) ?_
                simp only [Act.put, List.setIfInBounds_toArray, List.set_cons_zero, List.set_cons_succ]
                refine wpAnyK_takeTo 7 (some 56) (.pointer (some ⟨g, off + j * 2, none⟩)) [8, 9, 11, 12, 13] rfl rfl (by kernel_rfl) (by kernel_rfl) (by kernel_rfl) (by kernel_rfl) (fun _ _ _ h => h) hS (Or.inl ⟨rfl, fun w1 hw1 => by have hw1 : Fr V.drew w1 (fun _ => False) := hw1; obtain ⟨x0, x1, x2, x3, x4⟩ := (HBV.out.fr hw1 (fun h => h)).cells; dsimp only at x0 x1 x2 x3 x4; obtain ⟨g', off', ha', _, e0, e1⟩ := (HCV.out.fr hw1 (fun _ _ h => h)) j x HX.out; dsimp only at ha'; cases ha'; go_simp⟩) ?_
                simp only [Act.put, List.setIfInBounds_toArray, List.set_cons_zero, List.set_cons_succ]
                refine wpAnyK_takeTo 8 (some 57) (.string x.name) [9, 11, 12, 13] rfl rfl (by kernel_rfl) (by kernel_rfl) (by kernel_rfl) (by kernel_rfl) (fun _ _ _ h => h) hS (Or.inl ⟨rfl, fun w1 hw1 => by have hw1 : Fr V.drew w1 (fun _ => False) := hw1; obtain ⟨x0, x1, x2, x3, x4⟩ := (HBV.out.fr hw1 (fun h => h)).cells; dsimp only at x0 x1 x2 x3 x4; obtain ⟨g', off', ha', _, e0, e1⟩ := (HCV.out.fr hw1 (fun _ _ h => h)) j x HX.out; dsimp only at ha'; cases ha'; go_simp⟩) ?_
                simp only [Act.put, List.setIfInBounds_toArray, List.set_cons_zero, List.set_cons_succ]
                refine wpAnyK_takeTo 10 (some 59) (.int .i64 (j : Int)) [11, 12, 13] rfl rfl (by kernel_rfl) (by kernel_rfl) (by kernel_rfl) (by kernel_rfl) (fun _ _ _ h => h) hS (Or.inl ⟨rfl, fun w1 hw1 => by have hw1 : Fr V.drew w1 (fun _ => False) := hw1; obtain ⟨x0, x1, x2, x3, x4⟩ := (HBV.out.fr hw1 (fun h => h)).cells; dsimp only at x0 x1 x2 x3 x4; obtain ⟨g', off', ha', _, e0, e1⟩ := (HCV.out.fr hw1 (fun _ _ h => h)) j x HX.out; dsimp only at ha'; cases ha'; go_simp⟩) ?_
                simp only [Act.put, List.setIfInBounds_toArray, List.set_cons_zero, List.set_cons_succ]
                refine wpAnyK_one (i := 9) (by kernel_rfl) rfl rfl ?_
                refine wp_call_to (some 58) rfl 20 #[.agg #[.int .i64 id, .string nm, .slice (some ⟨g, off, none⟩) cn cc, .slice ka kn kc, .bool ix], .string x.name] (by go_simp) (place_ref ⟨id, nm, some ⟨g, off, none⟩, cn, cc, C, ka, kn, kc, K, ix⟩ HCV.out HT.out.cn HT.out.cb x.name) ?_
                rintro e Z ⟨r, rfl, hr, g1⟩
                refine ⟨_, rfl, fun _ => g1, ?_⟩
                have hd := place_dup HX.out hr
                obtain ⟨d, hd2⟩ : ∃ d, d = decide (r < (j : Int)) := ⟨_, rfl⟩
                rw [← hd2] at hd
                have HD := hide hd
                replace hd2 := hd2.symm
                clear hd hr
                replace hS : (fun U : World => Fr V.drew U (fun _ => False)) Z := g1
                simp only [Act.put, List.setIfInBounds_toArray, List.set_cons_zero, List.set_cons_succ]
                refine wpAnyK_takeTo 11 (some 60) (.bool d) [12, 13] rfl rfl (by kernel_rfl) (by kernel_rfl) (by kernel_rfl) (by kernel_rfl) (fun _ _ _ h => h) hS (Or.inl ⟨rfl, fun w1 hw1 => by go_simp⟩) ?_
                simp only [Act.put, List.setIfInBounds_toArray, List.set_cons_zero, List.set_cons_succ]
                refine wpAnyK_takeTo 12 (some 61) (.bool d) [13] rfl rfl (by kernel_rfl) (by kernel_rfl) (by kernel_rfl) (by kernel_rfl) (fun _ _ _ h => h) hS (Or.inl ⟨rfl, fun w1 hw1 => by go_simp⟩) ?_
                simp only [Act.put, List.setIfInBounds_toArray, List.set_cons_zero, List.set_cons_succ]
                refine wpAnyK_takeTo 13 (some 5) (.bool d) [] rfl rfl (by kernel_rfl) (by kernel_rfl) (by kernel_rfl) (by kernel_rfl) (fun _ _ _ h => h) hS (Or.inl ⟨rfl, fun w1 hw1 => by go_simp⟩) ?_
                simp only [Act.put, List.setIfInBounds_toArray, List.set_cons_zero, List.set_cons_succ]
                refine wpAnyK_done (by kernel_rfl) ?_ _
                have HFZ := hide ((HFV.out.two (Fr.drew V _)).two g1)
                clear hS g1 hd2 HBV HCV
                go_wp2
                go_roundw
                case rel => exact ⟨j + 1, by omega, by rw [badB_step HX.out, HBD.out, HNB.out, Bool.false_or], by rw [kinB_step HX.out, HKD.out, HKP.out]; rfl, by rw [dupF_step HNX.out, HTD.out, HD.out, Bool.false_or], by go_num, HFZ.out⟩
                case measure => simp [intOf]; omega
              · have HBV := hide ((HB.out.fr HFV.out (fun h => h)).fr (Fr.drew V (fun _ => False)) (fun h => h))
                have HCV := hide ((HT.out.cols.fr HFV.out (fun _ _ h => h)).fr (Fr.drew V (fun _ => False)) (fun _ _ h => h))
                refine wp_region_K (fun _ => true) (fun U : World => Fr V.drew U (fun _ => False)) (by kernel_rfl) ?_
                have hS : (fun U : World => Fr V.drew U (fun _ => False)) V.drew := Fr.refl _ _
                refine wpAnyK_takeTo 0 (some 49) (.bool true) [1, 2, 3, 4, 5, 6, 7, 8, 9, 10, 11, 12, 13] rfl rfl (by kernel_rfl) (by kernel_rfl) (by kernel_rfl) (by kernel_rfl) (fun _ _ _ h => h) hS (Or.inl ⟨rfl, fun w1 hw1 => by go_simp⟩) ?_
                simp only [Act.put, List.setIfInBounds_toArray, List.set_cons_zero, List.set_cons_succ]
                refine wpAnyK_takeTo 1 (some 50) (.bool true) [2, 3, 4, 5, 6, 7, 8, 9, 10, 11, 12, 13] rfl rfl (by kernel_rfl) (by kernel_rfl) (by kernel_rfl) (by kernel_rfl) (fun _ _ _ h => h) hS (Or.inl ⟨rfl, fun w1 hw1 => by go_simp⟩) ?_
                simp only [Act.put, List.setIfInBounds_toArray, List.set_cons_zero, List.set_cons_succ]
                refine wpAnyK_takeTo 2 (some 51) (undef) [9, 11, 12, 13] rfl rfl (by kernel_rfl) (by kernel_rfl) (by kernel_rfl) (by kernel_rfl) (fun _ _ _ h => h) hS (Or.inr ⟨rfl, rfl⟩) ?_
                simp only [Act.put, List.setIfInBounds_toArray, List.set_cons_zero, List.set_cons_succ]
                refine wpAnyK_takeTo 3 (some 52) (undef) [4, 6, 7, 8, 9, 11, 12, 13] rfl rfl (by kernel_rfl) (by kernel_rfl) (by kernel_rfl) (by kernel_rfl) (fun _ _ _ h => h) hS (Or.inr ⟨rfl, rfl⟩) ?_
                simp only [Act.put, List.setIfInBounds_toArray, List.set_cons_zero, List.set_cons_succ]
                refine wpAnyK_takeTo 4 (some 53) (undef) [6, 7, 8, 9, 11, 12, 13] rfl rfl (by kernel_rfl) (by kernel_rfl) (by kernel_rfl) (by kernel_rfl) (fun _ _ _ h => h) hS (Or.inr ⟨rfl, rfl⟩) ?_
                simp only [Act.put, List.setIfInBounds_toArray, List.set_cons_zero, List.set_cons_succ]
                refine wpAnyK_takeTo 5 (some 54) (undef) [6, 7, 8, 9, 11, 12, 13] rfl rfl (by kernel_rfl) (by kernel_rfl) (by kernel_rfl) (by kernel_rfl) (fun _ _ _ h => h) hS (Or.inr ⟨rfl, rfl⟩) ?_
                simp only [Act.put, List.setIfInBounds_toArray, List.set_cons_zero, List.set_cons_succ]
                refine wpAnyK_takeTo 6 (some 55) (undef) [7, 8, 9, 11, 12, 13] rfl rfl (by kernel_rfl) (by kernel_rfl) (by kernel_rfl) (by kernel_rfl) (fun _ _ _ h => h) hS (Or.inr ⟨rfl, rfl⟩) ?_
                simp only [Act.put, List.setIfInBounds_toArray, List.set_cons_zero, List.set_cons_succ]
                refine wpAnyK_takeTo 7 (some 56) (undef) [8, 9, 11, 12, 13] rfl rfl (by kernel_rfl) (by kernel_rfl) (by kernel_rfl) (by kernel_rfl) (fun _ _ _ h => h) hS (Or.inr ⟨rfl, rfl⟩) ?_
                simp only [Act.put, List.setIfInBounds_toArray, List.set_cons_zero, List.set_cons_succ]
                refine wpAnyK_takeTo 8 (some 57) (undef) [9, 11, 12, 13] rfl rfl (by kernel_rfl) (by kernel_rfl) (by kernel_rfl) (by kernel_rfl) (fun _ _ _ h => h) hS (Or.inr ⟨rfl, rfl⟩) ?_
                simp only [Act.put, List.setIfInBounds_toArray, List.set_cons_zero, List.set_cons_succ]
                refine wpAnyK_takeTo 9 (some 58) (undef) [11, 12, 13] rfl rfl (by kernel_rfl) (by kernel_rfl) (by kernel_rfl) (by kernel_rfl) (fun _ _ _ h => h) hS (Or.inr ⟨rfl, rfl⟩) ?_
                simp only [Act.put, List.setIfInBounds_toArray, List.set_cons_zero, List.set_cons_succ]
                refine wpAnyK_takeTo 10 (some 59) (undef) [11, 12, 13] rfl rfl (by kernel_rfl) (by kernel_rfl) (by kernel_rfl) (by kernel_rfl) (fun _ _ _ h => h) hS (Or.inr ⟨rfl, rfl⟩) ?_
                simp only [Act.put, List.setIfInBounds_toArray, List.set_cons_zero, List.set_cons_succ]
                refine wpAnyK_takeTo 11 (some 60) (undef) [12, 13] rfl rfl (by kernel_rfl) (by kernel_rfl) (by kernel_rfl) (by kernel_rfl) (fun _ _ _ h => h) hS (Or.inr ⟨rfl, rfl⟩) ?_
                simp only [Act.put, List.setIfInBounds_toArray, List.set_cons_zero, List.set_cons_succ]
                refine wpAnyK_takeTo 12 (some 61) (.bool true) [13] rfl rfl (by kernel_rfl) (by kernel_rfl) (by kernel_rfl) (by kernel_rfl) (fun _ _ _ h => h) hS (Or.inl ⟨rfl, fun w1 hw1 => by go_simp⟩) ?_
                simp only [Act.put, List.setIfInBounds_toArray, List.set_cons_zero, List.set_cons_succ]
                refine wpAnyK_takeTo 13 (some 5) (.bool true) [] rfl rfl (by kernel_rfl) (by kernel_rfl) (by kernel_rfl) (by kernel_rfl) (fun _ _ _ h => h) hS (Or.inl ⟨rfl, fun w1 hw1 => by go_simp⟩) ?_
                simp only [Act.put, List.setIfInBounds_toArray, List.set_cons_zero, List.set_cons_succ]
                refine wpAnyK_done (by kernel_rfl) ?_ _
                have HFZ := hide (HFV.out.two (Fr.drew V (fun _ => False)))
                clear hS HBV HCV
                go_wp2
                go_roundw
                case rel => exact ⟨j + 1, by omega, by rw [badB_step HX.out, HBD.out, HNB.out, Bool.false_or], by rw [kinB_step HX.out, HKD.out, HKP.out]; rfl, by rw [dupF_step HNX.out, HTD.out, Bool.true_or], by go_num, HFZ.out⟩
                case measure => simp [intOf]; omega
        · go_wp2_with fail
          cases td
          · have HBV := hide ((HB.out.fr HFV.out (fun h => h)).fr (Fr.drew V (fun _ => False)) (fun h => h))
            have HCV := hide ((HT.out.cols.fr HFV.out (fun _ _ h => h)).fr (Fr.drew V (fun _ => False)) (fun _ _ h => h))
            refine wp_region_K (fun _ => true) (fun U : World => Fr V.drew U (fun _ => False)) (by kernel_rfl) ?_
            have hS : (fun U : World => Fr V.drew U (fun _ => False)) V.drew := Fr.refl _ _
            refine wpAnyK_takeTo 0 (some 49) (.bool false) [1, 2, 3, 4, 5, 6, 7, 8, 9, 10, 11, 12, 13] rfl rfl (by kernel_rfl) (by kernel_rfl) (by kernel_rfl) (by kernel_rfl) (fun _ _ _ h => h) hS (Or.inl ⟨rfl, fun w1 hw1 => by have hw1 : Fr V.drew w1 (fun _ => False) := hw1; obtain ⟨x0, x1, x2, x3, x4⟩ := (HBV.out.fr hw1 (fun h => h)).cells; dsimp only at x0 x1 x2 x3 x4; obtain ⟨g', off', ha', _, e0, e1⟩ := (HCV.out.fr hw1 (fun _ _ h => h)) j x HX.out; dsimp only at ha'; cases ha'; go_simp⟩) ?_
            simp only [Act.put, List.setIfInBounds_toArray, List.set_cons_zero, List.set_cons_succ]
            refine wpAnyK_takeTo 1 (some 50) (.bool false) [2, 3, 4, 5, 6, 7, 8, 9, 10, 11, 12, 13] rfl rfl (by kernel_rfl) (by kernel_rfl) (by kernel_rfl) (by kernel_rfl) (fun _ _ _ h => h) hS (Or.inl ⟨rfl, fun w1 hw1 => by have hw1 : Fr V.drew w1 (fun _ => False) := hw1; obtain ⟨x0, x1, x2, x3, x4⟩ := (HBV.out.fr hw1 (fun h => h)).cells; dsimp only at x0 x1 x2 x3 x4; obtain ⟨g', off', ha', _, e0, e1⟩ := (HCV.out.fr hw1 (fun _ _ h => h)) j x HX.out; dsimp only at ha'; cases ha'; go_simp⟩) ?_
            simp only [Act.put, List.setIfInBounds_toArray, List.set_cons_zero, List.set_cons_succ]
            refine wpAnyK_takeTo 2 (some 51) (.agg #[.int .i64 id, .string nm, .slice (some ⟨g, off, none⟩) cn cc, .slice ka kn kc, .bool ix]) [9, 11, 12, 13] rfl rfl (by kernel_rfl) (by kernel_rfl) (by kernel_rfl) (by kernel_rfl) (fun _ _ _ h => h) hS (Or.inl ⟨rfl, fun w1 hw1 => by have hw1 : Fr V.drew w1 (fun _ => False) := hw1; obtain ⟨x0, x1, x2, x3, x4⟩ := (HBV.out.fr hw1 (fun h => h)).cells; dsimp only at x0 x1 x2 x3 x4; obtain ⟨g', off', ha', _, e0, e1⟩ := (HCV.out.fr hw1 (fun _ _ h => h)) j x HX.out; dsimp only at ha'; cases ha'; go_simp⟩) ?_
            simp only [Act.put, List.setIfInBounds_toArray, List.set_cons_zero, List.set_cons_succ]
            refine wpAnyK_takeTo 3 (some 52) (.pointer (some ⟨w.heap.size, 2, none⟩)) [4, 6, 7, 8, 9, 11, 12, 13] rfl rfl (by kernel_rfl) (by kernel_rfl) (by kernel_rfl) (by kernel_rfl) (fun _ _ _ h => h) hS (Or.inl ⟨rfl, fun w1 hw1 => by have hw1 : Fr V.drew w1 (fun _ => False) := hw1; obtain ⟨x0, x1, x2, x3, x4⟩ := (HBV.out.fr hw1 (fun h => h)).cells; dsimp only at x0 x1 x2 x3 x4; obtain ⟨g', off', ha', _, e0, e1⟩ := (HCV.out.fr hw1 (fun _ _ h => h)) j x HX.out; dsimp only at ha'; cases ha'; go_simp⟩) ?_
            simp only [Act.put, List.setIfInBounds_toArray, List.set_cons_zero, List.set_cons_succ]
            refine wpAnyK_takeTo 4 (some 53) (.slice (some ⟨g, off, none⟩) cn cc) [6, 7, 8, 9, 11, 12, 13] rfl rfl (by kernel_rfl) (by kernel_rfl) (by kernel_rfl) (by kernel_rfl) (fun _ _ _ h => h) hS (Or.inl ⟨rfl, fun w1 hw1 => by have hw1 : Fr V.drew w1 (fun _ => False) := hw1; obtain ⟨x0, x1, x2, x3, x4⟩ := (HBV.out.fr hw1 (fun h => h)).cells; dsimp only at x0 x1 x2 x3 x4; obtain ⟨g', off', ha', _, e0, e1⟩ := (HCV.out.fr hw1 (fun _ _ h => h)) j x HX.out; dsimp only at ha'; cases ha'; go_simp⟩) ?_
            simp only [Act.put, List.setIfInBounds_toArray, List.set_cons_zero, List.set_cons_succ]
            refine wpAnyK_takeTo 5 (some 54) (.int .i64 (j : Int)) [6, 7, 8, 9, 11, 12, 13] rfl rfl (by kernel_rfl) (by kernel_rfl) (by kernel_rfl) (by kernel_rfl) (fun _ _ _ h => h) hS (Or.inl ⟨rfl, fun w1 hw1 => by have hw1 : Fr V.drew w1 (fun _ => False) := hw1; obtain ⟨x0, x1, x2, x3, x4⟩ := (HBV.out.fr hw1 (fun h => h)).cells; dsimp only at x0 x1 x2 x3 x4; obtain ⟨g', off', ha', _, e0, e1⟩ := (HCV.out.fr hw1 (fun _ _ h => h)) j x HX.out; dsimp only at ha'; cases ha'; go_simp⟩) ?_
            simp only [Act.put, List.setIfInBounds_toArray, List.set_cons_zero, List.set_cons_succ]
            refine wpAnyK_takeTo 6 (some 55) (.pointer (some ⟨g, off + j * 2, none⟩)) [7, 8, 9, 11, 12, 13] rfl rfl (by kernel_rfl) (by kernel_rfl) (by kernel_rfl) (by kernel_rfl) (fun _ _ _ h => h) hS (Or.inl ⟨rfl, fun w1 hw1 => by have hw1 : Fr V.drew w1 (fun _ => False) := hw1; obtain ⟨x0, x1, x2, x3, x4⟩ := (HBV.out.fr hw1 (fun h => h)).cells; dsimp only at x0 x1 x2 x3 x4; obtain ⟨g', off', ha', _, e0, e1⟩ := (HCV.out.fr hw1 (fun _ _ h => h)) j x HX.out; dsimp only at ha'; cases ha'; go_simp⟩) ?_
            simp only [Act.put, List.setIfInBounds_toArray, List.set_cons_zero, List.set_cons_succ]
            refine wpAnyK_takeTo 7 (some 56) (.pointer (some ⟨g, off + j * 2, none⟩)) [8, 9, 11, 12, 13] rfl rfl (by kernel_rfl) (by kernel_rfl) (by kernel_rfl) (by kernel_rfl) (fun _ _ _ h => h) hS (Or.inl ⟨rfl, fun w1 hw1 => by have hw1 : Fr V.drew w1 (fun _ => False) := hw1; obtain ⟨x0, x1, x2, x3, x4⟩ := (HBV.out.fr hw1 (fun h => h)).cells; dsimp only at x0 x1 x2 x3 x4; obtain ⟨g', off', ha', _, e0, e1⟩ := (HCV.out.fr hw1 (fun _ _ h => h)) j x HX.out; dsimp only at ha'; cases ha'; go_simp⟩) ?_
            simp only [Act.put, List.setIfInBounds_toArray, List.set_cons_zero, List.set_cons_succ]
            refine wpAnyK_takeTo 8 (some 57) (.string x.name) [9, 11, 12, 13] rfl rfl (by kernel_rfl) (by kernel_rfl) (by kernel_rfl) (by kernel_rfl) (fun _ _ _ h => h) hS (Or.inl ⟨rfl, fun w1 hw1 => by have hw1 : Fr V.drew w1 (fun _ => False) := hw1; obtain ⟨x0, x1, x2, x3, x4⟩ := (HBV.out.fr hw1 (fun h => h)).cells; dsimp only at x0 x1 x2 x3 x4; obtain ⟨g', off', ha', _, e0, e1⟩ := (HCV.out.fr hw1 (fun _ _ h => h)) j x HX.out; dsimp only at ha'; cases ha'; go_simp⟩) ?_
            simp only [Act.put, List.setIfInBounds_toArray, List.set_cons_zero, List.set_cons_succ]
            refine wpAnyK_takeTo 10 (some 59) (.int .i64 (j : Int)) [11, 12, 13] rfl rfl (by kernel_rfl) (by kernel_rfl) (by kernel_rfl) (by kernel_rfl) (fun _ _ _ h => h) hS (Or.inl ⟨rfl, fun w1 hw1 => by have hw1 : Fr V.drew w1 (fun _ => False) := hw1; obtain ⟨x0, x1, x2, x3, x4⟩ := (HBV.out.fr hw1 (fun h => h)).cells; dsimp only at x0 x1 x2 x3 x4; obtain ⟨g', off', ha', _, e0, e1⟩ := (HCV.out.fr hw1 (fun _ _ h => h)) j x HX.out; dsimp only at ha'; cases ha'; go_simp⟩) ?_
            simp only [Act.put, List.setIfInBounds_toArray, List.set_cons_zero, List.set_cons_succ]
            refine wpAnyK_one (i := 9) (by kernel_rfl) rfl rfl ?_
            refine wp_call_to (some 58) rfl 20 #[.agg #[.int .i64 id, .string nm, .slice (some ⟨g, off, none⟩) cn cc, .slice ka kn kc, .bool ix], .string x.name] (by go_simp) (place_ref ⟨id, nm, some ⟨g, off, none⟩, cn, cc, C, ka, kn, kc, K, ix⟩ HCV.out HT.out.cn HT.out.cb x.name) ?_
            rintro e Z ⟨r, rfl, hr, g1⟩
            refine ⟨_, rfl, fun _ => g1, ?_⟩
            have hd := place_dup HX.out hr
            obtain ⟨d, hd2⟩ : ∃ d, d = decide (r < (j : Int)) := ⟨_, rfl⟩
            rw [← hd2] at hd
            have HD := hide hd
            replace hd2 := hd2.symm
            clear hd hr
            replace hS : (fun U : World => Fr V.drew U (fun _ => False)) Z := g1
            simp only [Act.put, List.setIfInBounds_toArray, List.set_cons_zero, List.set_cons_succ]
            refine wpAnyK_takeTo 11 (some 60) (.bool d) [12, 13] rfl rfl (by kernel_rfl) (by kernel_rfl) (by kernel_rfl) (by kernel_rfl) (fun _ _ _ h => h) hS (Or.inl ⟨rfl, fun w1 hw1 => by go_simp⟩) ?_
            simp only [Act.put, List.setIfInBounds_toArray, List.set_cons_zero, List.set_cons_succ]
            refine wpAnyK_takeTo 12 (some 61) (.bool d) [13] rfl rfl (by kernel_rfl) (by kernel_rfl) (by kernel_rfl) (by kernel_rfl) (fun _ _ _ h => h) hS (Or.inl ⟨rfl, fun w1 hw1 => by go_simp⟩) ?_
            simp only [Act.put, List.setIfInBounds_toArray, List.set_cons_zero, List.set_cons_succ]
            refine wpAnyK_takeTo 13 (some 5) (.bool d) [] rfl rfl (by kernel_rfl) (by kernel_rfl) (by kernel_rfl) (by kernel_rfl) (fun _ _ _ h => h) hS (Or.inl ⟨rfl, fun w1 hw1 => by go_simp⟩) ?_
            simp only [Act.put, List.setIfInBounds_toArray, List.set_cons_zero, List.set_cons_succ]
            refine wpAnyK_done (by kernel_rfl) ?_ _
            have HFZ := hide ((HFV.out.two (Fr.drew V _)).two g1)
            clear hS g1 hd2 HBV HCV
            go_wp2
            go_roundw
            case rel => exact ⟨j + 1, by omega, by rw [badB_step HX.out, HBD.out, HNB.out, Bool.false_or], by rw [kinB_step HX.out, HKD.out]; rfl, by rw [dupF_step HNX.out, HTD.out, HD.out, Bool.false_or], by go_num, HFZ.out⟩
            case measure => simp [intOf]; omega
          · have HBV := hide ((HB.out.fr HFV.out (fun h => h)).fr (Fr.drew V (fun _ => False)) (fun h => h))
            have HCV := hide ((HT.out.cols.fr HFV.out (fun _ _ h => h)).fr (Fr.drew V (fun _ => False)) (fun _ _ h => h))
            refine wp_region_K (fun _ => true) (fun U : World => Fr V.drew U (fun _ => False)) (by kernel_rfl) ?_
            have hS : (fun U : World => Fr V.drew U (fun _ => False)) V.drew := Fr.refl _ _
            refine wpAnyK_takeTo 0 (some 49) (.bool true) [1, 2, 3, 4, 5, 6, 7, 8, 9, 10, 11, 12, 13] rfl rfl (by kernel_rfl) (by kernel_rfl) (by kernel_rfl) (by kernel_rfl) (fun _ _ _ h => h) hS (Or.inl ⟨rfl, fun w1 hw1 => by go_simp⟩) ?_
            simp only [Act.put, List.setIfInBounds_toArray, List.set_cons_zero, List.set_cons_succ]
            refine wpAnyK_takeTo 1 (some 50) (.bool true) [2, 3, 4, 5, 6, 7, 8, 9, 10, 11, 12, 13] rfl rfl (by kernel_rfl) (by kernel_rfl) (by kernel_rfl) (by kernel_rfl) (fun _ _ _ h => h) hS (Or.inl ⟨rfl, fun w1 hw1 => by go_simp⟩) ?_
            simp only [Act.put, List.setIfInBounds_toArray, List.set_cons_zero, List.set_cons_succ]
            refine wpAnyK_takeTo 2 (some 51) (undef) [9, 11, 12, 13] rfl rfl (by kernel_rfl) (by kernel_rfl) (by kernel_rfl) (by kernel_rfl) (fun _ _ _ h => h) hS (Or.inr ⟨rfl, rfl⟩) ?_
            simp only [Act.put, List.setIfInBounds_toArray, List.set_cons_zero, List.set_cons_succ]
            refine wpAnyK_takeTo 3 (some 52) (undef) [4, 6, 7, 8, 9, 11, 12, 13] rfl rfl (by kernel_rfl) (by kernel_rfl) (by kernel_rfl) (by kernel_rfl) (fun _ _ _ h => h) hS (Or.inr ⟨rfl, rfl⟩) ?_
            simp only [Act.put, List.setIfInBounds_toArray, List.set_cons_zero, List.set_cons_succ]
            refine wpAnyK_takeTo 4 (some 53) (undef) [6, 7, 8, 9, 11, 12, 13] rfl rfl (by kernel_rfl) (by kernel_rfl) (by kernel_rfl) (by kernel_rfl) (fun _ _ _ h => h) hS (Or.inr ⟨rfl, rfl⟩) ?_
            simp only [Act.put, List.setIfInBounds_toArray, List.set_cons_zero, List.set_cons_succ]
            refine wpAnyK_takeTo 5 (some 54) (undef) [6, 7, 8, 9, 11, 12, 13] rfl rfl (by kernel_rfl) (by kernel_rfl) (by kernel_rfl) (by kernel_rfl) (fun _ _ _ h => h) hS (Or.inr ⟨rfl, rfl⟩) ?_
            simp only [Act.put, List.setIfInBounds_toArray, List.set_cons_zero, List.set_cons_succ]
            refine wpAnyK_takeTo 6 (some 55) (undef) [7, 8, 9, 11, 12, 13] rfl rfl (by kernel_rfl) (by kernel_rfl) (by kernel_rfl) (by kernel_rfl) (fun _ _ _ h => h) hS (Or.inr ⟨rfl, rfl⟩) ?_
            simp only [Act.put, List.setIfInBounds_toArray, List.set_cons_zero, List.set_cons_succ]
            refine wpAnyK_takeTo 7 (some 56) (undef) [8, 9, 11, 12, 13] rfl rfl (by kernel_rfl) (by kernel_rfl) (by kernel_rfl) (by kernel_rfl) (fun _ _ _ h => h) hS (Or.inr ⟨rfl, rfl⟩) ?_
            simp only [Act.put, List.setIfInBounds_toArray, List.set_cons_zero, List.set_cons_succ]
            refine wpAnyK_takeTo 8 (some 57) (undef) [9, 11, 12, 13] rfl rfl (by kernel_rfl) (by kernel_rfl) (by kernel_rfl) (by kernel_rfl) (fun _ _ _ h => h) hS (Or.inr ⟨rfl, rfl⟩) ?_
            simp only [Act.put, List.setIfInBounds_toArray, List.set_cons_zero, List.set_cons_succ]
            refine wpAnyK_takeTo 9 (some 58) (undef) [11, 12, 13] rfl rfl (by kernel_rfl) (by kernel_rfl) (by kernel_rfl) (by kernel_rfl) (fun _ _ _ h => h) hS (Or.inr ⟨rfl, rfl⟩) ?_
            simp only [Act.put, List.setIfInBounds_toArray, List.set_cons_zero, List.set_cons_succ]
            refine wpAnyK_takeTo 10 (some 59) (undef) [11, 12, 13] rfl rfl (by kernel_rfl) (by kernel_rfl) (by kernel_rfl) (by kernel_rfl) (fun _ _ _ h => h) hS (Or.inr ⟨rfl, rfl⟩) ?_
            simp only [Act.put, List.setIfInBounds_toArray, List.set_cons_zero, List.set_cons_succ]
            refine wpAnyK_takeTo 11 (some 60) (undef) [12, 13] rfl rfl (by kernel_rfl) (by kernel_rfl) (by kernel_rfl) (by kernel_rfl) (fun _ _ _ h => h) hS (Or.inr ⟨rfl, rfl⟩) ?_
            simp only [Act.put, List.setIfInBounds_toArray, List.set_cons_zero, List.set_cons_succ]
            refine wpAnyK_takeTo 12 (some 61) (.bool true) [13] rfl rfl (by kernel_rfl) (by kernel_rfl) (by kernel_rfl) (by kernel_rfl) (fun _ _ _ h => h) hS (Or.inl ⟨rfl, fun w1 hw1 => by go_simp⟩) ?_
            simp only [Act.put, List.setIfInBounds_toArray, List.set_cons_zero, List.set_cons_succ]
            refine wpAnyK_takeTo 13 (some 5) (.bool true) [] rfl rfl (by kernel_rfl) (by kernel_rfl) (by kernel_rfl) (by kernel_rfl) (fun _ _ _ h => h) hS (Or.inl ⟨rfl, fun w1 hw1 => by go_simp⟩) ?_
            simp only [Act.put, List.setIfInBounds_toArray, List.set_cons_zero, List.set_cons_succ]
            refine wpAnyK_done (by kernel_rfl) ?_ _
            have HFZ := hide (HFV.out.two (Fr.drew V (fun _ => False)))
            clear hS HBV HCV
            go_wp2
            go_roundw
            case rel => exact ⟨j + 1, by omega, by rw [badB_step HX.out, HBD.out, HNB.out, Bool.false_or], by rw [kinB_step HX.out, HKD.out]; rfl, by rw [dupF_step HNX.out, HTD.out, Bool.true_or], by go_num, HFZ.out⟩
            case measure => simp [intOf]; omega
      · obtain ⟨V, hV⟩ : ∃ V, V = W := ⟨_, rfl⟩
        subst hV
        have HFV := HFW
        cases kd
        · have hkp : kindP x = (decide (x.kind = 1) || decide (x.kind = 2)) := rfl
          by_cases k1 : x.kind = 1
          · have HKP : Hid (kindP x = true) := hide (by rw [hkp, k1]; rfl)
            have k1b : (x.kind == 1) = true := by simpa using k1
            have k1n : (x.kind != 1) = false := by simpa using k1
            clear hkp
            go_wp2_with fail
            cases td
            · have HBV := hide ((HB.out.fr HFV.out (fun h => h)).fr (Fr.drew V (fun _ => False)) (fun h => h))
              have HCV := hide ((HT.out.cols.fr HFV.out (fun _ _ h => h)).fr (Fr.drew V (fun _ => False)) (fun _ _ h => h))
              refine wp_region_K (fun _ => true) (fun U : World => Fr V.drew U (fun _ => False)) (by kernel_rfl) ?_
              have hS : (fun U : World => Fr V.drew U (fun _ => False)) V.drew := Fr.refl _ _
              refine wpAnyK_takeTo 0 (some 49) (.bool false) [1, 2, 3, 4, 5, 6, 7, 8, 9, 10, 11, 12, 13] rfl rfl (by kernel_rfl) (by kernel_rfl) (by kernel_rfl) (by kernel_rfl) (fun _ _ _ h => h) hS (Or.inl ⟨rfl, fun w1 hw1 => by have hw1 : Fr V.drew w1 (fun _ => False) := hw1; obtain ⟨x0, x1, x2, x3, x4⟩ := (HBV.out.fr hw1 (fun h => h)).cells; dsimp only at x0 x1 x2 x3 x4; obtain ⟨g', off', ha', _, e0, e1⟩ := (HCV.out.fr hw1 (fun _ _ h => h)) j x HX.out; dsimp only at ha'; cases ha'; go_simp⟩) ?_
              simp only [Act.put, List.setIfInBounds_toArray, List.set_cons_zero, List.set_cons_succ]
              refine wpAnyK_takeTo 1 (some 50) (.bool false) [2, 3, 4, 5, 6, 7, 8, 9, 10, 11, 12, 13] rfl rfl (by kernel_rfl) (by kernel_rfl) (by kernel_rfl) (by kernel_rfl) (fun _ _ _ h => h) hS (Or.inl ⟨rfl, fun w1 hw1 => by have hw1 : Fr V.drew w1 (fun _ => False) := hw1; obtain ⟨x0, x1, x2, x3, x4⟩ := (HBV.out.fr hw1 (fun h => h)).cells; dsimp only at x0 x1 x2 x3 x4; obtain ⟨g', off', ha', _, e0, e1⟩ := (HCV.out.fr hw1 (fun _ _ h => h)) j x HX.out; dsimp only at ha'; cases ha'; go_simp⟩) ?_
              simp only [Act.put, List.setIfInBounds_toArray, List.set_cons_zero, List.set_cons_succ]
              refine wpAnyK_takeTo 2 (some 51) (.agg #[.int .i64 id, .string nm, .slice (some ⟨g, off, none⟩) cn cc, .slice ka kn kc, .bool ix]) [9, 11, 12, 13] rfl rfl (by kernel_rfl) (by kernel_rfl) (by kernel_rfl) (by kernel_rfl) (fun _ _ _ h => h) hS (Or.inl ⟨rfl, fun w1 hw1 => by have hw1 : Fr V.drew w1 (fun _ => False) := hw1; obtain ⟨x0, x1, x2, x3, x4⟩ := (HBV.out.fr hw1 (fun h => h)).cells; dsimp only at x0 x1 x2 x3 x4; obtain ⟨g', off', ha', _, e0, e1⟩ := (HCV.out.fr hw1 (fun _ _ h => h)) j x HX.out; dsimp only at ha'; cases ha'; go_simp⟩) ?_
              simp only [Act.put, List.setIfInBounds_toArray, List.set_cons_zero, List.set_cons_succ]
              refine wpAnyK_takeTo 3 (some 52) (.pointer (some ⟨w.heap.size, 2, none⟩)) [4, 6, 7, 8, 9, 11, 12, 13] rfl rfl (by kernel_rfl) (by kernel_rfl) (by kernel_rfl) (by kernel_rfl) (fun _ _ _ h => h) hS (Or.inl ⟨rfl, fun w1 hw1 => by have hw1 : Fr V.drew w1 (fun _ => False) := hw1; obtain ⟨x0, x1, x2, x3, x4⟩ := (HBV.out.fr hw1 (fun h => h)).cells; dsimp only at x0 x1 x2 x3 x4; obtain ⟨g', off', ha', _, e0, e1⟩ := (HCV.out.fr hw1 (fun _ _ h => h)) j x HX.out; dsimp only at ha'; cases ha'; go_simp⟩) ?_
              simp only [Act.put, List.setIfInBounds_toArray, List.set_cons_zero, List.set_cons_succ]
              refine wpAnyK_takeTo 4 (some 53) (.slice (some ⟨g, off, none⟩) cn cc) [6, 7, 8, 9, 11, 12, 13] rfl rfl (by kernel_rfl) (by kernel_rfl) (by kernel_rfl) (by kernel_rfl) (fun _ _ _ h => h) hS (Or.inl ⟨rfl, fun w1 hw1 => by have hw1 : Fr V.drew w1 (fun _ => False) := hw1; obtain ⟨x0, x1, x2, x3, x4⟩ := (HBV.out.fr hw1 (fun h => h)).cells; dsimp only at x0 x1 x2 x3 x4; obtain ⟨g', off', ha', _, e0, e1⟩ := (HCV.out.fr hw1 (fun _ _ h => h)) j x HX.out; dsimp only at ha'; cases ha'; go_simp⟩) ?_
              simp only [Act.put, List.setIfInBounds_toArray, List.set_cons_zero, List.set_cons_succ]
              refine wpAnyK_takeTo 5 (some 54) (.int .i64 (j : Int)) [6, 7, 8, 9, 11, 12, 13] rfl rfl (by kernel_rfl) (by kernel_rfl) (by kernel_rfl) (by kernel_rfl) (fun _ _ _ h => h) hS (Or.inl ⟨rfl, fun w1 hw1 => by have hw1 : Fr V.drew w1 (fun _ => False) := hw1; obtain ⟨x0, x1, x2, x3, x4⟩ := (HBV.out.fr hw1 (fun h => h)).cells; dsimp only at x0 x1 x2 x3 x4; obtain ⟨g', off', ha', _, e0, e1⟩ := (HCV.out.fr hw1 (fun _ _ h => h)) j x HX.out; dsimp only at ha'; cases ha'; go_simp⟩) ?_
              simp only [Act.put, List.setIfInBounds_toArray, List.set_cons_zero, List.set_cons_succ]
              refine wpAnyK_takeTo 6 (some 55) (.pointer (some ⟨g, off + j * 2, none⟩)) [7, 8, 9, 11, 12, 13] rfl rfl (by kernel_rfl) (by kernel_rfl) (by kernel_rfl) (by kernel_rfl) (fun _ _ _ h => h) hS (Or.inl ⟨rfl, fun w1 hw1 => by have hw1 : Fr V.drew w1 (fun _ => False) := hw1; obtain ⟨x0, x1, x2, x3, x4⟩ := (HBV.out.fr hw1 (fun h => h)).cells; dsimp only at x0 x1 x2 x3 x4; obtain ⟨g', off', ha', _, e0, e1⟩ := (HCV.out.fr hw1 (fun _ _ h => h)) j x HX.out; dsimp only at ha'; cases ha'; go_simp⟩) ?_
              simp only [Act.put, List.setIfInBounds_toArray, List.set_cons_zero, List.set_cons_succ]
              refine wpAnyK_takeTo 7 (some 56) (.pointer (some ⟨g, off + j * 2, none⟩)) [8, 9, 11, 12, 13] rfl rfl (by kernel_rfl) (by kernel_rfl) (by kernel_rfl) (by kernel_rfl) (fun _ _ _ h => h) hS (Or.inl ⟨rfl, fun w1 hw1 => by have hw1 : Fr V.drew w1 (fun _ => False) := hw1; obtain ⟨x0, x1, x2, x3, x4⟩ := (HBV.out.fr hw1 (fun h => h)).cells; dsimp only at x0 x1 x2 x3 x4; obtain ⟨g', off', ha', _, e0, e1⟩ := (HCV.out.fr hw1 (fun _ _ h => h)) j x HX.out; dsimp only at ha'; cases ha'; go_simp⟩) ?_
              simp only [Act.put, List.setIfInBounds_toArray, List.set_cons_zero, List.set_cons_succ]
              refine wpAnyK_takeTo 8 (some 57) (.string x.name) [9, 11, 12, 13] rfl rfl (by kernel_rfl) (by kernel_rfl) (by kernel_rfl) (by kernel_rfl) (fun _ _ _ h => h) hS (Or.inl ⟨rfl, fun w1 hw1 => by have hw1 : Fr V.drew w1 (fun _ => False) := hw1; obtain ⟨x0, x1, x2, x3, x4⟩ := (HBV.out.fr hw1 (fun h => h)).cells; dsimp only at x0 x1 x2 x3 x4; obtain ⟨g', off', ha', _, e0, e1⟩ := (HCV.out.fr hw1 (fun _ _ h => h)) j x HX.out; dsimp only at ha'; cases ha'; go_simp⟩) ?_
              simp only [Act.put, List.setIfInBounds_toArray, List.set_cons_zero, List.set_cons_succ]
              refine wpAnyK_takeTo 10 (some 59) (.int .i64 (j : Int)) [11, 12, 13] rfl rfl (by kernel_rfl) (by kernel_rfl) (by kernel_rfl) (by kernel_rfl) (fun _ _ _ h => h) hS (Or.inl ⟨rfl, fun w1 hw1 => by have hw1 : Fr V.drew w1 (fun _ => False) := hw1; obtain ⟨x0, x1, x2, x3, x4⟩ := (HBV.out.fr hw1 (fun h => h)).cells; dsimp only at x0 x1 x2 x3 x4; obtain ⟨g', off', ha', _, e0, e1⟩ := (HCV.out.fr hw1 (fun _ _ h => h)) j x HX.out; dsimp only at ha'; cases ha'; go_simp⟩) ?_
              simp only [Act.put, List.setIfInBounds_toArray, List.set_cons_zero, List.set_cons_succ]
              refine wpAnyK_one (i := 9) (by kernel_rfl) rfl rfl ?_
              refine wp_call_to (some 58) rfl 20 #[.agg #[.int .i64 id, .string nm, .slice (some ⟨g, off, none⟩) cn cc, .slice ka kn kc, .bool ix], .string x.name] (by go_simp) (place_ref ⟨id, nm, some ⟨g, off, none⟩, cn, cc, C, ka, kn, kc, K, ix⟩ HCV.out HT.out.cn HT.out.cb x.name) ?_
              rintro e Z ⟨r, rfl, hr, g1⟩
              refine ⟨_, rfl, fun _ => g1, ?_⟩
              have hd := place_dup HX.out hr
              obtain ⟨d, hd2⟩ : ∃ d, d = decide (r < (j : Int)) := ⟨_, rfl⟩
              rw [← hd2] at hd
              have HD := hide hd
              replace hd2 := hd2.symm
              clear hd hr
              replace hS : (fun U : World => Fr V.drew U (fun _ => False)) Z := g1
              simp only [Act.put, List.setIfInBounds_toArray, List.set_cons_zero, List.set_cons_succ]
              refine wpAnyK_takeTo 11 (some 60) (.bool d) [12, 13] rfl rfl (by kernel_rfl) (by kernel_rfl) (by kernel_rfl) (by kernel_rfl) (fun _ _ _ h => h) hS (Or.inl ⟨rfl, fun w1 hw1 => by go_simp⟩) ?_
              simp only [Act.put, List.setIfInBounds_toArray, List.set_cons_zero, List.set_cons_succ]
              refine wpAnyK_takeTo 12 (some 61) (.bool d) [13] rfl rfl (by kernel_rfl) (by kernel_rfl) (by kernel_rfl) (by kernel_rfl) (fun _ _ _ h => h) hS (Or.inl ⟨rfl, fun w1 hw1 => by go_simp⟩) ?_
              simp only [Act.put, List.setIfInBounds_toArray, List.set_cons_zero, List.set_cons_succ]
              refine wpAnyK_takeTo 13 (some 5) (.bool d) [] rfl rfl (by kernel_rfl) (by kernel_rfl) (by kernel_rfl) (by kernel_rfl) (fun _ _ _ h => h) hS (Or.inl ⟨rfl, fun w1 hw1 => by go_simp⟩) ?_
              simp only [Act.put, List.setIfInBounds_toArray, List.set_cons_zero, List.set_cons_succ]
              refine wpAnyK_done (by kernel_rfl) ?_ _
              have HFZ := hide ((HFV.out.two (Fr.drew V _)).two g1)
              clear hS g1 hd2 HBV HCV
              go_wp2
              go_roundw
              case rel => exact ⟨j + 1, by omega, by rw [badB_step HX.out, HBD.out, Bool.true_or], by rw [kinB_step HX.out, HKD.out, HKP.out]; rfl, by rw [dupF_step HNX.out, HTD.out, HD.out, Bool.false_or], by go_num, HFZ.out⟩
              case measure => simp [intOf]; omega
            · have HBV := hide ((HB.out.fr HFV.out (fun h => h)).fr (Fr.drew V (fun _ => False)) (fun h => h))
              have HCV := hide ((HT.out.cols.fr HFV.out (fun _ _ h => h)).fr (Fr.drew V (fun _ => False)) (fun _ _ h => h))
              refine wp_region_K (fun _ => true) (fun U : World => Fr V.drew U (fun _ => False)) (by kernel_rfl) ?_
              have hS : (fun U : World => Fr V.drew U (fun _ => False)) V.drew := Fr.refl _ _
              refine wpAnyK_takeTo 0 (some 49) (.bool true) [1, 2, 3, 4, 5, 6, 7, 8, 9, 10, 11, 12, 13] rfl rfl (by kernel_rfl) (by kernel_rfl) (by kernel_rfl) (by kernel_rfl) (fun _ _ _ h => h) hS (Or.inl ⟨rfl, fun w1 hw1 => by go_simp⟩) ?_
              simp only [Act.put, List.setIfInBounds_toArray, List.set_cons_zero, List.set_cons_succ]
              refine wpAnyK_takeTo 1 (some 50) (.bool true) [2, 3, 4, 5, 6, 7, 8, 9, 10, 11, 12, 13] rfl rfl (by kernel_rfl) (by kernel_rfl) (by kernel_rfl) (by kernel_rfl) (fun _ _ _ h => h) hS (Or.inl ⟨rfl, fun w1 hw1 => by go_simp⟩) ?_
              simp only [Act.put, List.setIfInBounds_toArray, List.set_cons_zero, List.set_cons_succ]
              refine wpAnyK_takeTo 2 (some 51) (undef) [9, 11, 12, 13] rfl rfl (by kernel_rfl) (by kernel_rfl) (by kernel_rfl) (by kernel_rfl) (fun _ _ _ h => h) hS (Or.inr ⟨rfl, rfl⟩) ?_
              simp only [Act.put, List.setIfInBounds_toArray, List.set_cons_zero, List.set_cons_succ]
              refine wpAnyK_takeTo 3 (some 52) (undef) [4, 6, 7, 8, 9, 11, 12, 13] rfl rfl (by kernel_rfl) (by kernel_rfl) (by kernel_rfl) (by kernel_rfl) (fun _ _ _ h => h) hS (Or.inr ⟨rfl, rfl⟩) ?_
              simp only [Act.put, List.setIfInBounds_toArray, List.set_cons_zero, List.set_cons_succ]
              refine wpAnyK_takeTo 4 (some 53) (undef) [6, 7, 8, 9, 11, 12, 13] rfl rfl (by kernel_rfl) (by kernel_rfl) (by kernel_rfl) (by kernel_rfl) (fun _ _ _ h => h) hS (Or.inr ⟨rfl, rfl⟩) ?_
              simp only [Act.put, List.setIfInBounds_toArray, List.set_cons_zero, List.set_cons_succ]
              refine wpAnyK_takeTo 5 (some 54) (undef) [6, 7, 8, 9, 11, 12, 13] rfl rfl (by kernel_rfl) (by kernel_rfl) (by kernel_rfl) (by kernel_rfl) (fun _ _ _ h => h) hS (Or.inr ⟨rfl, rfl⟩) ?_
              simp only [Act.put, List.setIfInBounds_toArray, List.set_cons_zero, List.set_cons_succ]
              refine wpAnyK_takeTo 6 (some 55) (undef) [7, 8, 9, 11, 12, 13] rfl rfl (by kernel_rfl) (by kernel_rfl) (by kernel_rfl) (by kernel_rfl) (fun _ _ _ h => h) hS (Or.inr ⟨rfl, rfl⟩) ?_
              simp only [Act.put, List.setIfInBounds_toArray, List.set_cons_zero, List.set_cons_succ]
              refine wpAnyK_takeTo 7 (some 56) (undef) [8, 9, 11, 12, 13] rfl rfl (by kernel_rfl) (by kernel_rfl) (by kernel_rfl) (by kernel_rfl) (fun _ _ _ h => h) hS (Or.inr ⟨rfl, rfl⟩) ?_
              simp only [Act.put, List.setIfInBounds_toArray, List.set_cons_zero, List.set_cons_succ]
              refine wpAnyK_takeTo 8 (some 57) (undef) [9, 11, 12, 13] rfl rfl (by kernel_rfl) (by kernel_rfl) (by kernel_rfl) (by kernel_rfl) (fun _ _ _ h => h) hS (Or.inr ⟨rfl, rfl⟩) ?_
              simp only [Act.put, List.setIfInBounds_toArray, List.set_cons_zero, List.set_cons_succ]
              refine wpAnyK_takeTo 9 (some 58) (undef) [11, 12, 13] rfl rfl (by kernel_rfl) (by kernel_rfl) (by kernel_rfl) (by kernel_rfl) (fun _ _ _ h => h) hS (Or.inr ⟨rfl, rfl⟩) ?_
              simp only [Act.put, List.setIfInBounds_toArray, List.set_cons_zero, List.set_cons_succ]
              refine wpAnyK_takeTo 10 (some 59) (undef) [11, 12, 13] rfl rfl (by kernel_rfl) (by kernel_rfl) (by kernel_rfl) (by kernel_rfl) (fun _ _ _ h => h) hS (Or.inr ⟨rfl, rfl⟩) ?_
              simp only [Act.put, List.setIfInBounds_toArray, List.set_cons_zero, List.set_cons_succ]
              refine wpAnyK_takeTo 11 (some 60) (undef) [12, 13] rfl rfl (by kernel_rfl) (by kernel_rfl) (by kernel_rfl) (by kernel_rfl) (fun _ _ _ h => h) hS (Or.inr ⟨rfl, rfl⟩) ?_
              simp only [Act.put, List.setIfInBounds_toArray, List.set_cons_zero, List.set_cons_succ]
              refine wpAnyK_takeTo 12 (some 61) (.bool true) [13] rfl rfl (by kernel_rfl) (by kernel_rfl) (by kernel_rfl) (by kernel_rfl) (fun _ _ _ h => h) hS (Or.inl ⟨rfl, fun w1 hw1 => by go_simp⟩) ?_
              simp only [Act.put, List.setIfInBounds_toArray, List.set_cons_zero, List.set_cons_succ]
              refine wpAnyK_takeTo 13 (some 5) (.bool true) [] rfl rfl (by kernel_rfl) (by kernel_rfl) (by kernel_rfl) (by kernel_rfl) (fun _ _ _ h => h) hS (Or.inl ⟨rfl, fun w1 hw1 => by go_simp⟩) ?_
              simp only [Act.put, List.setIfInBounds_toArray, List.set_cons_zero, List.set_cons_succ]
              refine wpAnyK_done (by kernel_rfl) ?_ _
              have HFZ := hide (HFV.out.two (Fr.drew V (fun _ => False)))
              clear hS HBV HCV
              go_wp2
              go_roundw
              case rel => exact ⟨j + 1, by omega, by rw [badB_step HX.out, HBD.out, Bool.true_or], by rw [kinB_step HX.out, HKD.out, HKP.out]; rfl, by rw [dupF_step HNX.out, HTD.out, Bool.true_or], by go_num, HFZ.out⟩
              case measure => simp [intOf]; omega
          · have k1b : (x.kind == 1) = false := by simpa using k1
            have k1n : (x.kind != 1) = true := by simpa using k1
            by_cases k2 : x.kind = 2
            · have HKP : Hid (kindP x = true) := hide (by rw [hkp, k2]; rfl)
              have k2b : (x.kind == 2) = true := by simpa using k2
              have k2n : (x.kind != 2) = false := by simpa using k2
              clear hkp
              go_wp2_with fail
              cases td
              · have HBV := hide ((HB.out.fr HFV.out (fun h => h)).fr (Fr.drew V (fun _ => False)) (fun h => h))
                have HCV := hide ((HT.out.cols.fr HFV.out (fun _ _ h => h)).fr (Fr.drew V (fun _ => False)) (fun _ _ h => h))
                refine wp_region_K (fun _ => true) (fun U : World => Fr V.drew U (fun _ => False)) (by kernel_rfl) ?_
                have hS : (fun U : World => Fr V.drew U (fun _ => False)) V.drew := Fr.refl _ _
                refine wpAnyK_takeTo 0 (some 49) (.bool false) [1, 2, 3, 4, 5, 6, 7, 8, 9, 10, 11, 12, 13] rfl rfl (by kernel_rfl) (by kernel_rfl) (by kernel_rfl) (by kernel_rfl) (fun _ _ _ h => h) hS (Or.inl ⟨rfl, fun w1 hw1 => by have hw1 : Fr V.drew w1 (fun _ => False) := hw1; obtain ⟨x0, x1, x2, x3, x4⟩ := (HBV.out.fr hw1 (fun h => h)).cells; dsimp only at x0 x1 x2 x3 x4; obtain ⟨g', off', ha', _, e0, e1⟩ := (HCV.out.fr hw1 (fun _ _ h => h)) j x HX.out; dsimp only at ha'; cases ha'; go_simp⟩) ?_
                simp only [Act.put, List.setIfInBounds_toArray, List.set_cons_zero, List.set_cons_succ]
                refine wpAnyK_takeTo 1 (some 50) (.bool false) [2, 3, 4, 5, 6, 7, 8, 9, 10, 11, 12, 13] rfl rfl (by kernel_rfl) (by kernel_rfl) (by kernel_rfl) (by kernel_rfl) (fun _ _ _ h => h) hS (Or.inl ⟨rfl, fun w1 hw1 => by have hw1 : Fr V.drew w1 (fun _ => False) := hw1; obtain ⟨x0, x1, x2, x3, x4⟩ := (HBV.out.fr hw1 (fun h => h)).cells; dsimp only at x0 x1 x2 x3 x4; obtain ⟨g', off', ha', _, e0, e1⟩ := (HCV.out.fr hw1 (fun _ _ h => h)) j x HX.out; dsimp only at ha'; cases ha'; go_simp⟩) ?_
                simp only [Act.put, List.setIfInBounds_toArray, List.set_cons_zero, List.set_cons_succ]
                refine wpAnyK_takeTo 2 (some 51) (.agg #[.int .i64 id, .string nm, .slice (some ⟨g, off, none⟩) cn cc, .slice ka kn kc, .bool ix]) [9, 11, 12, 13] rfl rfl (by kernel_rfl) (by kernel_rfl) (by kernel_rfl) (by kernel_rfl) (fun _ _ _ h => h) hS (Or.inl ⟨rfl, fun w1 hw1 => by have hw1 : Fr V.drew w1 (fun _ => False) := hw1; obtain ⟨x0, x1, x2, x3, x4⟩ := (HBV.out.fr hw1 (fun h => h)).cells; dsimp only at x0 x1 x2 x3 x4; obtain ⟨g', off', ha', _, e0, e1⟩ := (HCV.out.fr hw1 (fun _ _ h => h)) j x HX.out; dsimp only at ha'; cases ha'; go_simp⟩) ?_
                simp only [Act.put, List.setIfInBounds_toArray, List.set_cons_zero, List.set_cons_succ]
                refine wpAnyK_takeTo 3 (some 52) (.pointer (some ⟨w.heap.size, 2, none⟩)) [4, 6, 7, 8, 9, 11, 12, 13] rfl rfl (by kernel_rfl) (by kernel_rfl) (by kernel_rfl) (by kernel_rfl) (fun _ _ _ h => h) hS (Or.inl ⟨rfl, fun w1 hw1 => by have hw1 : Fr V.drew w1 (fun _ => False) := hw1; obtain ⟨x0, x1, x2, x3, x4⟩ := (HBV.out.fr hw1 (fun h => h)).cells; dsimp only at x0 x1 x2 x3 x4; obtain ⟨g', off', ha', _, e0, e1⟩ := (HCV.out.fr hw1 (fun _ _ h => h)) j x HX.out; dsimp only at ha'; cases ha'; go_simp⟩) ?_
                simp only [Act.put, List.setIfInBounds_toArray, List.set_cons_zero, List.set_cons_succ]
                refine wpAnyK_takeTo 4 (some 53) (.slice (some ⟨g, off, none⟩) cn cc) [6, 7, 8, 9, 11, 12, 13] rfl rfl (by kernel_rfl) (by kernel_rfl) (by kernel_rfl) (by kernel_rfl) (fun _ _ _ h => h) hS (Or.inl ⟨rfl, fun w1 hw1 => by have hw1 : Fr V.drew w1 (fun _ => False) := hw1; obtain ⟨x0, x1, x2, x3, x4⟩ := (HBV.out.fr hw1 (fun h => h)).cells; dsimp only at x0 x1 x2 x3 x4; obtain ⟨g', off', ha', _, e0, e1⟩ := (HCV.out.fr hw1 (fun _ _ h => h)) j x HX.out; dsimp only at ha'; cases ha'; go_simp⟩) ?_
                simp only [Act.put, List.setIfInBounds_toArray, List.set_cons_zero, List.set_cons_succ]
                refine wpAnyK_takeTo 5 (some 54) (.int .i64 (j : Int)) [6, 7, 8, 9, 11, 12, 13] rfl rfl (by kernel_rfl) (by kernel_rfl) (by kernel_rfl) (by kernel_rfl) (fun _ _ _ h => h) hS (Or.inl ⟨rfl, fun w1 hw1 => by have hw1 : Fr V.drew w1 (fun _ => False) := hw1; obtain ⟨x0, x1, x2, x3, x4⟩ := (HBV.out.fr hw1 (fun h => h)).cells; dsimp only at x0 x1 x2 x3 x4; obtain ⟨g', off', ha', _, e0, e1⟩ := (HCV.out.fr hw1 (fun _ _ h => h)) j x HX.out; dsimp only at ha'; cases ha'; go_simp⟩) ?_
                simp only [Act.put, List.setIfInBounds_toArray, List.set_cons_zero, List.set_cons_succ]
                refine wpAnyK_takeTo 6 (some 55) (.pointer (some ⟨g, off + j * 2, none⟩)) [7, 8, 9, 11, 12, 13] rfl rfl (by kernel_rfl) (by kernel_rfl) (by kernel_rfl) (by kernel_rfl) (fun _ _ _ h => h) hS (Or.inl ⟨rfl, fun w1 hw1 => by have hw1 : Fr V.drew w1 (fun _ => False) := hw1; obtain ⟨x0, x1, x2, x3, x4⟩ := (HBV.out.fr hw1 (fun h => h)).cells; dsimp only at x0 x1 x2 x3 x4; obtain ⟨g', off', ha', _, e0, e1⟩ := (HCV.out.fr hw1 (fun _ _ h => h)) j x HX.out; dsimp only at ha'; cases ha'; go_simp⟩) ?_
                simp only [Act.put, List.setIfInBounds_toArray, List.set_cons_zero, List.set_cons_succ]
                refine wpAnyK_takeTo 7 (some 56) (.pointer (some ⟨g, off + j * 2, none⟩)) [8, 9, 11, 12, 13] rfl rfl (by kernel_rfl) (by kernel_rfl) (by kernel_rfl) (by kernel_rfl) (fun _ _ _ h => h) hS (Or.inl ⟨rfl, fun w1 hw1 => by have hw1 : Fr V.drew w1 (fun _ => False) := hw1; obtain ⟨x0, x1, x2, x3, x4⟩ := (HBV.out.fr hw1 (fun h => h)).cells; dsimp only at x0 x1 x2 x3 x4; obtain ⟨g', off', ha', _, e0, e1⟩ := (HCV.out.fr hw1 (fun _ _ h => h)) j x HX.out; dsimp only at ha'; cases ha'; go_simp⟩) ?_
                simp only [Act.put, List.setIfInBounds_toArray, List.set_cons_zero, List.set_cons_succ]
                refine wpAnyK_takeTo 8 (some 57) (.string x.name) [9, 11, 12, 13] rfl rfl (by kernel_rfl) (by kernel_rfl) (by kernel_rfl) (by kernel_rfl) (fun _ _ _ h => h) hS (Or.inl ⟨rfl, fun w1 hw1 => by have hw1 : Fr V.drew w1 (fun _ => False) := hw1; obtain ⟨x0, x1, x2, x3, x4⟩ := (HBV.out.fr hw1 (fun h => h)).cells; dsimp only at x0 x1 x2 x3 x4; obtain ⟨g', off', ha', _, e0, e1⟩ := (HCV.out.fr hw1 (fun _ _ h => h)) j x HX.out; dsimp only at ha'; cases ha'; go_simp⟩) ?_
                simp only [Act.put, List.setIfInBounds_toArray, List.set_cons_zero, List.set_cons_succ]
                refine wpAnyK_takeTo 10 (some 59) (.int .i64 (j : Int)) [11, 12, 13] rfl rfl (by kernel_rfl) (by kernel_rfl) (by kernel_rfl) (by kernel_rfl) (fun _ _ _ h => h) hS (Or.inl ⟨rfl, fun w1 hw1 => by have hw1 : Fr V.drew w1 (fun _ => False) := hw1; obtain ⟨x0, x1, x2, x3, x4⟩ := (HBV.out.fr hw1 (fun h => h)).cells; dsimp only at x0 x1 x2 x3 x4; obtain ⟨g', off', ha', _, e0, e1⟩ := (HCV.out.fr hw1 (fun _ _ h => h)) j x HX.out; dsimp only at ha'; cases ha'; go_simp⟩) ?_
                simp only [Act.put, List.setIfInBounds_toArray, List.set_cons_zero, List.set_cons_succ]
                refine wpAnyK_one (i := 9) (by kernel_rfl) rfl rfl ?_
                refine wp_call_to (some 58) rfl 20 #[.agg #[.int .i64 id, .string nm, .slice (some ⟨g, off, none⟩) cn cc, .slice ka kn kc, .bool ix], .string x.name] (by go_simp) (place_ref ⟨id, nm, some ⟨g, off, none⟩, cn, cc, C, ka, kn, kc, K, ix⟩ HCV.out HT.out.cn HT.out.cb x.name) ?_
                rintro e Z ⟨r, rfl, hr, g1⟩
                refine ⟨_, rfl, fun _ => g1, ?_⟩
                have hd := place_dup HX.out hr
                obtain ⟨d, hd2⟩ : ∃ d, d = decide (r < (j : Int)) := ⟨_, rfl⟩
                rw [← hd2] at hd
                have HD := hide hd
                replace hd2 := hd2.symm
                clear hd hr
                replace hS : (fun U : World => Fr V.drew U (fun _ => False)) Z := g1
                simp only [Act.put, List.setIfInBounds_toArray, List.set_cons_zero, List.set_cons_succ]
                refine wpAnyK_takeTo 11 (some 60) (.bool d) [12, 13] rfl rfl (by kernel_rfl) (by kernel_rfl) (by kernel_rfl) (by kernel_rfl) (fun _ _ _ h => h) hS (Or.inl ⟨rfl, fun w1 hw1 => by go_simp⟩) ?_
                simp only [Act.put, List.setIfInBounds_toArray, List.set_cons_zero, List.set_cons_succ]
                refine wpAnyK_takeTo 12 (some 61) (.bool d) [13] rfl rfl (by kernel_rfl) (by kernel_rfl) (by kernel_rfl) (by kernel_rfl) (fun _ _ _ h => h) hS (Or.inl ⟨rfl, fun w1 hw1 => by go_simp⟩) ?_
                simp only [Act.put, List.setIfInBounds_toArray, List.set_cons_zero, List.set_cons_succ]
                refine wpAnyK_takeTo 13 (some 5) (.bool d) [] rfl rfl (by kernel_rfl) (by kernel_rfl) (by kernel_rfl) (by kernel_rfl) (fun _ _ _ h => h) hS (Or.inl ⟨rfl, fun w1 hw1 => by go_simp⟩) ?_
                simp only [Act.put, List.setIfInBounds_toArray, List.set_cons_zero, List.set_cons_succ]
                refine wpAnyK_done (by kernel_rfl) ?_ _
                have HFZ := hide ((HFV.out.two (Fr.drew V _)).two g1)
                clear hS g1 hd2 HBV HCV
                go_wp2
                go_roundw
                case rel => exact ⟨j + 1, by omega, by rw [badB_step HX.out, HBD.out, Bool.true_or], by rw [kinB_step HX.out, HKD.out, HKP.out]; rfl, by rw [dupF_step HNX.out, HTD.out, HD.out, Bool.false_or], by go_num, HFZ.out⟩
                case measure => simp [intOf]; omega
              · have HBV := hide ((HB.out.fr HFV.out (fun h => h)).fr (Fr.drew V (fun _ => False)) (fun h => h))
                have HCV := hide ((HT.out.cols.fr HFV.out (fun _ _ h => h)).fr (Fr.drew V (fun _ => False)) (fun _ _ h => h))
                refine wp_region_K (fun _ => true) (fun U : World => Fr V.drew U (fun _ => False)) (by kernel_rfl) ?_
                have hS : (fun U : World => Fr V.drew U (fun _ => False)) V.drew := Fr.refl _ _
                refine wpAnyK_takeTo 0 (some 49) (.bool true) [1, 2, 3, 4, 5, 6, 7, 8, 9, 10, 11, 12, 13] rfl rfl (by kernel_rfl) (by kernel_rfl) (by kernel_rfl) (by kernel_rfl) (fun _ _ _ h => h) hS (Or.inl ⟨rfl, fun w1 hw1 => by go_simp⟩) ?_
                simp only [Act.put, List.setIfInBounds_toArray, List.set_cons_zero, List.set_cons_succ]
                refine wpAnyK_takeTo 1 (some 50) (.bool true) [2, 3, 4, 5, 6, 7, 8, 9, 10, 11, 12, 13] rfl rfl (by kernel_rfl) (by kernel_rfl) (by kernel_rfl) (by kernel_rfl) (fun _ _ _ h => h) hS (Or.inl ⟨rfl, fun w1 hw1 => by go_simp⟩) ?_
                simp only [Act.put, List.setIfInBounds_toArray, List.set_cons_zero, List.set_cons_succ]
                refine wpAnyK_takeTo 2 (some 51) (undef) [9, 11, 12, 13] rfl rfl (by kernel_rfl) (by kernel_rfl) (by kernel_rfl) (by kernel_rfl) (fun _ _ _ h => h) hS (Or.inr ⟨rfl, rfl⟩) ?_
                simp only [Act.put, List.setIfInBounds_toArray, List.set_cons_zero, List.set_cons_succ]
                refine wpAnyK_takeTo 3 (some 52) (undef) [4, 6, 7, 8, 9, 11, 12, 13] rfl rfl (by kernel_rfl) (by kernel_rfl) (by kernel_rfl) (by kernel_rfl) (fun _ _ _ h => h) hS (Or.inr ⟨rfl, rfl⟩) ?_
                simp only [Act.put, List.setIfInBounds_toArray, List.set_cons_zero, List.set_cons_succ]
                refine wpAnyK_takeTo 4 (some 53) (undef) [6, 7, 8, 9, 11, 12, 13] rfl rfl (by kernel_rfl) (by kernel_rfl) (by kernel_rfl) (by kernel_rfl) (fun _ _ _ h => h) hS (Or.inr ⟨rfl, rfl⟩) ?_
                simp only [Act.put, List.setIfInBounds_toArray, List.set_cons_zero, List.set_cons_succ]
                refine wpAnyK_takeTo 5 (some 54) (undef) [6, 7, 8, 9, 11, 12, 13] rfl rfl (by kernel_rfl) (by kernel_rfl) (by kernel_rfl) (by kernel_rfl) (fun _ _ _ h => h) hS (Or.inr ⟨rfl, rfl⟩) ?_
                simp only [Act.put, List.setIfInBounds_toArray, List.set_cons_zero, List.set_cons_succ]
                refine wpAnyK_takeTo 6 (some 55) (undef) [7, 8, 9, 11, 12, 13] rfl rfl (by kernel_rfl) (by kernel_rfl) (by kernel_rfl) (by kernel_rfl) (fun _ _ _ h => h) hS (Or.inr ⟨rfl, rfl⟩) ?_
                simp only [Act.put, List.setIfInBounds_toArray, List.set_cons_zero, List.set_cons_succ]
                refine wpAnyK_takeTo 7 (some 56) (undef) [8, 9, 11, 12, 13] rfl rfl (by kernel_rfl) (by kernel_rfl) (by kernel_rfl) (by kernel_rfl) (fun _ _ _ h => h) hS (Or.inr ⟨rfl, rfl⟩) ?_
                simp only [Act.put, List.setIfInBounds_toArray, List.set_cons_zero, List.set_cons_succ]
                refine wpAnyK_takeTo 8 (some 57) (undef) [9, 11, 12, 13] rfl rfl (by kernel_rfl) (by kernel_rfl) (by kernel_rfl) (by kernel_rfl) (fun _ _ _ h => h) hS (Or.inr ⟨rfl, rfl⟩) ?_
                simp only [Act.put, List.setIfInBounds_toArray, List.set_cons_zero, List.set_cons_succ]
                refine wpAnyK_takeTo 9 (some 58) (undef) [11, 12, 13] rfl rfl (by kernel_rfl) (by kernel_rfl) (by kernel_rfl) (by kernel_rfl) (fun _ _ _ h => h) hS (Or.inr ⟨rfl, rfl⟩) ?_
                simp only [Act.put, List.setIfInBounds_toArray, List.set_cons_zero, List.set_cons_succ]
                refine wpAnyK_takeTo 10 (some 59) (undef) [11, 12, 13] rfl rfl (by kernel_rfl) (by kernel_rfl) (by kernel_rfl) (by kernel_rfl) (fun _ _ _ h => h) hS (Or.inr ⟨rfl, rfl⟩) ?_
                simp only [Act.put, List.setIfInBounds_toArray, List.set_cons_zero, List.set_cons_succ]
                refine wpAnyK_takeTo 11 (some 60) (undef) [12, 13] rfl rfl (by kernel_rfl) (by kernel_rfl) (by kernel_rfl) (by kernel_rfl) (fun _ _ _ h => h) hS (Or.inr ⟨rfl, rfl⟩) ?_
                simp only [Act.put, List.setIfInBounds_toArray, List.set_cons_zero, List.set_cons_succ]
                refine wpAnyK_takeTo 12 (some 61) (.bool true) [13] rfl rfl (by kernel_rfl) (by kernel_rfl) (by kernel_rfl) (by kernel_rfl) (fun _ _ _ h => h) hS (Or.inl ⟨rfl, fun w1 hw1 => by go_simp⟩) ?_
                simp only [Act.put, List.setIfInBounds_toArray, List.set_cons_zero, List.set_cons_succ]
                refine wpAnyK_takeTo 13 (some 5) (.bool true) [] rfl rfl (by kernel_rfl) (by kernel_rfl) (by kernel_rfl) (by kernel_rfl) (fun _ _ _ h => h) hS (Or.inl ⟨rfl, fun w1 hw1 => by go_simp⟩) ?_
                simp only [Act.put, List.setIfInBounds_toArray, List.set_cons_zero, List.set_cons_succ]
                refine wpAnyK_done (by kernel_rfl) ?_ _
                have HFZ := hide (HFV.out.two (Fr.drew V (fun _ => False)))
                clear hS HBV HCV
                go_wp2
                go_roundw
                case rel => exact ⟨j + 1, by omega, by rw [badB_step HX.out, HBD.out, Bool.true_or], by rw [kinB_step HX.out, HKD.out, HKP.out]; rfl, by rw [dupF_step HNX.out, HTD.out, Bool.true_or], by go_num, HFZ.out⟩
                case measure => simp [intOf]; omega
            · have HKP : Hid (kindP x = false) := hide (by rw [hkp]; simp [k1, k2])
              have k2b : (x.kind == 2) = false := by simpa using k2
              have k2n : (x.kind != 2) = true := by simpa using k2
              clear hkp
              go_wp2_with fail
              cases td
              · have HBV := hide ((HB.out.fr HFV.out (fun h => h)).fr (Fr.drew V (fun _ => False)) (fun h => h))
                have HCV := hide ((HT.out.cols.fr HFV.out (fun _ _ h => h)).fr (Fr.drew V (fun _ => False)) (fun _ _ h => h))
                refine wp_region_K (fun _ => true) (fun U : World => Fr V.drew U (fun _ => False)) (by kernel_rfl) ?_
                have hS : (fun U : World => Fr V.drew U (fun _ => False)) V.drew := Fr.refl _ _
                refine wpAnyK_takeTo 0 (some 49) (.bool false) [1, 2, 3, 4, 5, 6, 7, 8, 9, 10, 11, 12, 13] rfl rfl (by kernel_rfl) (by kernel_rfl) (by kernel_rfl) (by kernel_rfl) (fun _ _ _ h => h) hS (Or.inl ⟨rfl, fun w1 hw1 => by have hw1 : Fr V.drew w1 (fun _ => False) := hw1; obtain ⟨x0, x1, x2, x3, x4⟩ := (HBV.out.fr hw1 (fun h => h)).cells; dsimp only at x0 x1 x2 x3 x4; obtain ⟨g', off', ha', _, e0, e1⟩ := (HCV.out.fr hw1 (fun _ _ h => h)) j x HX.out; dsimp only at ha'; cases ha'; go_simp⟩) ?_
                simp only [Act.put, List.setIfInBounds_toArray, List.set_cons_zero, List.set_cons_succ]
                refine wpAnyK_takeTo 1 (some 50) (.bool false) [2, 3, 4, 5, 6, 7, 8, 9, 10, 11, 12, 13] rfl rfl (by kernel_rfl) (by kernel_rfl) (by kernel_rfl) (by kernel_rfl) (fun _ _ _ h => h) hS (Or.inl ⟨rfl, fun w1 hw1 => by have hw1 : Fr V.drew w1 (fun _ => False) := hw1; obtain ⟨x0, x1, x2, x3, x4⟩ := (HBV.out.fr hw1 (fun h => h)).cells; dsimp only at x0 x1 x2 x3 x4; obtain ⟨g', off', ha', _, e0, e1⟩ := (HCV.out.fr hw1 (fun _ _ h => h)) j x HX.out; dsimp only at ha'; cases ha'; go_simp⟩) ?_
                simp only [Act.put, List.setIfInBounds_toArray, List.set_cons_zero, List.set_cons_succ]
                refine wpAnyK_takeTo 2 (some 51) (.agg #[.int .i64 id, .string nm, .slice (some ⟨g, off, none⟩) cn cc, .slice ka kn kc, .bool ix]) [9, 11, 12, 13] rfl rfl (by kernel_rfl) (by kernel_rfl) (by kernel_rfl) (by kernel_rfl) (fun _ _ _ h => h) hS (Or.inl ⟨rfl, fun w1 hw1 => by have hw1 : Fr V.drew w1 (fun _ => False) := hw1; obtain ⟨x0, x1, x2, x3, x4⟩ := (HBV.out.fr hw1 (fun h => h)).cells; dsimp only at x0 x1 x2 x3 x4; obtain ⟨g', off', ha', _, e0, e1⟩ := (HCV.out.fr hw1 (fun _ _ h => h)) j x HX.out; dsimp only at ha'; cases ha'; go_simp⟩) ?_
                simp only [Act.put, List.setIfInBounds_toArray, List.set_cons_zero, List.set_cons_succ]
                refine wpAnyK_takeTo 3 (some 52) (.pointer (some ⟨w.heap.size, 2, none⟩)) [4, 6, 7, 8, 9, 11, 12, 13] rfl rfl (by kernel_rfl) (by kernel_rfl) (by kernel_rfl) (by kernel_rfl) (fun _ _ _ h => h) hS (Or.inl ⟨rfl, fun w1 hw1 => by have hw1 : Fr V.drew w1 (fun _ => False) := hw1; obtain ⟨x0, x1, x2, x3, x4⟩ := (HBV.out.fr hw1 (fun h => h)).cells; dsimp only at x0 x1 x2 x3 x4; obtain ⟨g', off', ha', _, e0, e1⟩ := (HCV.out.fr hw1 (fun _ _ h => h)) j x HX.out; dsimp only at ha'; cases ha'; go_simp⟩) ?_
                simp only [Act.put, List.setIfInBounds_toArray, List.set_cons_zero, List.set_cons_succ]
                refine wpAnyK_takeTo 4 (some 53) (.slice (some ⟨g, off, none⟩) cn cc) [6, 7, 8, 9, 11, 12, 13] rfl rfl (by kernel_rfl) (by kernel_rfl) (by kernel_rfl) (by kernel_rfl) (fun _ _ _ h => h) hS (Or.inl ⟨rfl, fun w1 hw1 => by have hw1 : Fr V.drew w1 (fun _ => False) := hw1; obtain ⟨x0, x1, x2, x3, x4⟩ := (HBV.out.fr hw1 (fun h => h)).cells; dsimp only at x0 x1 x2 x3 x4; obtain ⟨g', off', ha', _, e0, e1⟩ := (HCV.out.fr hw1 (fun _ _ h => h)) j x HX.out; dsimp only at ha'; cases ha'; go_simp⟩) ?_
                simp only [Act.put, List.setIfInBounds_toArray, List.set_cons_zero, List.set_cons_succ]
                refine wpAnyK_takeTo 5 (some 54) (.int .i64 (j : Int)) [6, 7, 8, 9, 11, 12, 13] rfl rfl (by kernel_rfl) (by kernel_rfl) (by kernel_rfl) (by kernel_rfl) (fun _ _ _ h => h) hS (Or.inl ⟨rfl, fun w1 hw1 => by have hw1 : Fr V.drew w1 (fun _ => False) := hw1; obtain ⟨x0, x1, x2, x3, x4⟩ := (HBV.out.fr hw1 (fun h => h)).cells; dsimp only at x0 x1 x2 x3 x4; obtain ⟨g', off', ha', _, e0, e1⟩ := (HCV.out.fr hw1 (fun _ _ h => h)) j x HX.out; dsimp only at ha'; cases ha'; go_simp⟩) ?_
                simp only [Act.put, List.setIfInBounds_toArray, List.set_cons_zero, List.set_cons_succ]
                refine wpAnyK_takeTo 6 (some 55) (.pointer (some ⟨g, off + j * 2, none⟩)) [7, 8, 9, 11, 12, 13] rfl rfl (by kernel_rfl) (by kernel_rfl) (by kernel_rfl) (by kernel_rfl) (fun _ _ _ h => h) hS (Or.inl ⟨rfl, fun w1 hw1 => by have hw1 : Fr V.drew w1 (fun _ => False) := hw1; obtain ⟨x0, x1, x2, x3, x4⟩ := (HBV.out.fr hw1 (fun h => h)).cells; dsimp only at x0 x1 x2 x3 x4; obtain ⟨g', off', ha', _, e0, e1⟩ := (HCV.out.fr hw1 (fun _ _ h => h)) j x HX.out; dsimp only at ha'; cases ha'; go_simp⟩) ?_
                simp only [Act.put, List.setIfInBounds_toArray, List.set_cons_zero, List.set_cons_succ]
                refine wpAnyK_takeTo 7 (some 56) (.pointer (some ⟨g, off + j * 2, none⟩)) [8, 9, 11, 12, 13] rfl rfl (by kernel_rfl) (by kernel_rfl) (by kernel_rfl) (by kernel_rfl) (fun _ _ _ h => h) hS (Or.inl ⟨rfl, fun w1 hw1 => by have hw1 : Fr V.drew w1 (fun _ => False) := hw1; obtain ⟨x0, x1, x2, x3, x4⟩ := (HBV.out.fr hw1 (fun h => h)).cells; dsimp only at x0 x1 x2 x3 x4; obtain ⟨g', off', ha', _, e0, e1⟩ := (HCV.out.fr hw1 (fun _ _ h => h)) j x HX.out; dsimp only at ha'; cases ha'; go_simp⟩) ?_
                simp only [Act.put, List.setIfInBounds_toArray, List.set_cons_zero, List.set_cons_succ]
                refine wpAnyK_takeTo 8 (some 57) (.string x.name) [9, 11, 12, 13] rfl rfl (by kernel_rfl) (by kernel_rfl) (by kernel_rfl) (by kernel_rfl) (fun _ _ _ h => h) hS (Or.inl ⟨rfl, fun w1 hw1 => by have hw1 : Fr V.drew w1 (fun _ => False) := hw1; obtain ⟨x0, x1, x2, x3, x4⟩ := (HBV.out.fr hw1 (fun h => h)).cells; dsimp only at x0 x1 x2 x3 x4; obtain ⟨g', off', ha', _, e0, e1⟩ := (HCV.out.fr hw1 (fun _ _ h => h)) j x HX.out; dsimp only at ha'; cases ha'; go_simp⟩) ?_
                simp only [Act.put, List.setIfInBounds_toArray, List.set_cons_zero, List.set_cons_succ]
                refine wpAnyK_takeTo 10 (some 59) (.int .i64 (j : Int)) [11, 12, 13] rfl rfl (by kernel_rfl) (by kernel_rfl) (by kernel_rfl) (by kernel_rfl) (fun _ _ _ h => h) hS (Or.inl ⟨rfl, fun w1 hw1 => by have hw1 : Fr V.drew w1 (fun _ => False) := hw1; obtain ⟨x0, x1, x2, x3, x4⟩ := (HBV.out.fr hw1 (fun h => h)).cells; dsimp only at x0 x1 x2 x3 x4; obtain ⟨g', off', ha', _, e0, e1⟩ := (HCV.out.fr hw1 (fun _ _ h => h)) j x HX.out; dsimp only at ha'; cases ha'; go_simp⟩) ?_
                simp only [Act.put, List.setIfInBounds_toArray, List.set_cons_zero, List.set_cons_succ]
                refine wpAnyK_one (i := 9) (by kernel_rfl) rfl rfl ?_
                refine wp_call_to (some 58) rfl 20 #[.agg #[.int .i64 id, .string nm, .slice (some ⟨g, off, none⟩) cn cc, .slice ka kn kc, .bool ix], .string x.name] (by go_simp) (place_ref ⟨id, nm, some ⟨g, off, none⟩, cn, cc, C, ka, kn, kc, K, ix⟩ HCV.out HT.out.cn HT.out.cb x.name) ?_
                rintro e Z ⟨r, rfl, hr, g1⟩
                refine ⟨_, rfl, fun _ => g1, ?_⟩
                have hd := place_dup HX.out hr
                obtain ⟨d, hd2⟩ : ∃ d, d = decide (r < (j : Int)) := ⟨_, rfl⟩
                rw [← hd2] at hd
                have HD := hide hd
                replace hd2 := hd2.symm
                clear hd hr
                replace hS : (fun U : World => Fr V.drew U (fun _ => False)) Z := g1
                simp only [Act.put, List.setIfInBounds_toArray, List.set_cons_zero, List.set_cons_succ]
                refine wpAnyK_takeTo 11 (some 60) (.bool d) [12, 13] rfl rfl (by kernel_rfl) (by kernel_rfl) (by kernel_rfl) (by kernel_rfl) (fun _ _ _ h => h) hS (Or.inl ⟨rfl, fun w1 hw1 => by go_simp⟩) ?_
                simp only [Act.put, List.setIfInBounds_toArray, List.set_cons_zero, List.set_cons_succ]
                refine wpAnyK_takeTo 12 (some 61) (.bool d) [13] rfl rfl (by kernel_rfl) (by kernel_rfl) (by kernel_rfl) (by kernel_rfl) (fun _ _ _ h => h) hS (Or.inl ⟨rfl, fun w1 hw1 => by go_simp⟩) ?_
                simp only [Act.put, List.setIfInBounds_toArray, List.set_cons_zero, List.set_cons_succ]
                refine wpAnyK_takeTo 13 (some 5) (.bool d) [] rfl rfl (by kernel_rfl) (by kernel_rfl) (by kernel_rfl) (by kernel_rfl) (fun _ _ _ h => h) hS (Or.inl ⟨rfl, fun w1 hw1 => by go_simp⟩) ?_
                simp only [Act.put, List.setIfInBounds_toArray, List.set_cons_zero, List.set_cons_succ]
                refine wpAnyK_done (by kernel_rfl) ?_ _
                have HFZ := hide ((HFV.out.two (Fr.drew V _)).two g1)
                clear hS g1 hd2 HBV HCV
                go_wp2
                go_roundw
                case rel => exact ⟨j + 1, by omega, by rw [badB_step HX.out, HBD.out, Bool.true_or], by rw [kinB_step HX.out, HKD.out, HKP.out]; rfl, by rw [dupF_step HNX.out, HTD.out, HD.out, Bool.false_or], by go_num, HFZ.out⟩
                case measure => simp [intOf]; omega
              · have HBV := hide ((HB.out.fr HFV.out (fun h => h)).fr (Fr.drew V (fun _ => False)) (fun h => h))
                have HCV := hide ((HT.out.cols.fr HFV.out (fun _ _ h => h)).fr (Fr.drew V (fun _ => False)) (fun _ _ h => h))
                refine wp_region_K (fun _ => true) (fun U : World => Fr V.drew U (fun _ => False)) (by kernel_rfl) ?_
                have hS : (fun U : World => Fr V.drew U (fun _ => False)) V.drew := Fr.refl _ _
                refine wpAnyK_takeTo 0 (some 49) (.bool true) [1, 2, 3, 4, 5, 6, 7, 8, 9, 10, 11, 12, 13] rfl rfl (by kernel_rfl) (by kernel_rfl) (by kernel_rfl) (by kernel_rfl) (fun _ _ _ h => h) hS (Or.inl ⟨rfl, fun w1 hw1 => by go_simp⟩) ?_
                simp only [Act.put, List.setIfInBounds_toArray, List.set_cons_zero, List.set_cons_succ]
                refine wpAnyK_takeTo 1 (some 50) (.bool true) [2, 3, 4, 5, 6, 7, 8, 9, 10, 11, 12, 13] rfl rfl (by kernel_rfl) (by kernel_rfl) (by kernel_rfl) (by kernel_rfl) (fun _ _ _ h => h) hS (Or.inl ⟨rfl, fun w1 hw1 => by go_simp⟩) ?_
                simp only [Act.put, List.setIfInBounds_toArray, List.set_cons_zero, List.set_cons_succ]
                refine wpAnyK_takeTo 2 (some 51) (undef) [9, 11, 12, 13] rfl rfl (by kernel_rfl) (by kernel_rfl) (by kernel_rfl) (by kernel_rfl) (fun _ _ _ h => h) hS (Or.inr ⟨rfl, rfl⟩) ?_
                simp only [Act.put, List.setIfInBounds_toArray, List.set_cons_zero, List.set_cons_succ]
                refine wpAnyK_takeTo 3 (some 52) (undef) [4, 6, 7, 8, 9, 11, 12, 13] rfl rfl (by kernel_rfl) (by kernel_rfl) (by kernel_rfl) (by kernel_rfl) (fun _ _ _ h => h) hS (Or.inr ⟨rfl, rfl⟩) ?_
                simp only [Act.put, List.setIfInBounds_toArray, List.set_cons_zero, List.set_cons_succ]
                refine wpAnyK_takeTo 4 (some 53) (undef) [6, 7, 8, 9, 11, 12, 13] rfl rfl (by kernel_rfl) (by kernel_rfl) (by kernel_rfl) (by kernel_rfl) (fun _ _ _ h => h) hS (Or.inr ⟨rfl, rfl⟩) ?_
                simp only [Act.put, List.setIfInBounds_toArray, List.set_cons_zero, List.set_cons_succ]
                refine wpAnyK_takeTo 5 (some 54) (undef) [6, 7, 8, 9, 11, 12, 13] rfl rfl (by kernel_rfl) (by kernel_rfl) (by kernel_rfl) (by kernel_rfl) (fun _ _ _ h => h) hS (Or.inr ⟨rfl, rfl⟩) ?_
                simp only [Act.put, List.setIfInBounds_toArray, List.set_cons_zero, List.set_cons_succ]
                refine wpAnyK_takeTo 6 (some 55) (undef) [7, 8, 9, 11, 12, 13] rfl rfl (by kernel_rfl) (by kernel_rfl) (by kernel_rfl) (by kernel_rfl) (fun _ _ _ h => h) hS (Or.inr ⟨rfl, rfl⟩) ?_
                simp only [Act.put, List.setIfInBounds_toArray, List.set_cons_zero, List.set_cons_succ]
                refine wpAnyK_takeTo 7 (some 56) (undef) [8, 9, 11, 12, 13] rfl rfl (by kernel_rfl) (by kernel_rfl) (by kernel_rfl) (by kernel_rfl) (fun _ _ _ h => h) hS (Or.inr ⟨rfl, rfl⟩) ?_
                simp only [Act.put, List.setIfInBounds_toArray, List.set_cons_zero, List.set_cons_succ]
                refine wpAnyK_takeTo 8 (some 57) (undef) [9, 11, 12, 13] rfl rfl (by kernel_rfl) (by kernel_rfl) (by kernel_rfl) (by kernel_rfl) (fun _ _ _ h => h) hS (Or.inr ⟨rfl, rfl⟩) ?_
                simp only [Act.put, List.setIfInBounds_toArray, List.set_cons_zero, List.set_cons_succ]
                refine wpAnyK_takeTo 9 (some 58) (undef) [11, 12, 13] rfl rfl (by kernel_rfl) (by kernel_rfl) (by kernel_rfl) (by kernel_rfl) (fun _ _ _ h => h) hS (Or.inr ⟨rfl, rfl⟩) ?_
                simp only [Act.put, List.setIfInBounds_toArray, List.set_cons_zero, List.set_cons_succ]
                refine wpAnyK_takeTo 10 (some 59) (undef) [11, 12, 13] rfl rfl (by kernel_rfl) (by kernel_rfl) (by kernel_rfl) (by kernel_rfl) (fun _ _ _ h => h) hS (Or.inr ⟨rfl, rfl⟩) ?_
                simp only [Act.put, List.setIfInBounds_toArray, List.set_cons_zero, List.set_cons_succ]
                refine wpAnyK_takeTo 11 (some 60) (undef) [12, 13] rfl rfl (by kernel_rfl) (by kernel_rfl) (by kernel_rfl) (by kernel_rfl) (fun _ _ _ h => h) hS (Or.inr ⟨rfl, rfl⟩) ?_
                simp only [Act.put, List.setIfInBounds_toArray, List.set_cons_zero, List.set_cons_succ]
                refine wpAnyK_takeTo 12 (some 61) (.bool true) [13] rfl rfl (by kernel_rfl) (by kernel_rfl) (by kernel_rfl) (by kernel_rfl) (fun _ _ _ h => h) hS (Or.inl ⟨rfl, fun w1 hw1 => by go_simp⟩) ?_
                simp only [Act.put, List.setIfInBounds_toArray, List.set_cons_zero, List.set_cons_succ]
                refine wpAnyK_takeTo 13 (some 5) (.bool true) [] rfl rfl (by kernel_rfl) (by kernel_rfl) (by kernel_rfl) (by kernel_rfl) (fun _ _ _ h => h) hS (Or.inl ⟨rfl, fun w1 hw1 => by go_simp⟩) ?_
                simp only [Act.put, List.setIfInBounds_toArray, List.set_cons_zero, List.set_cons_succ]
                refine wpAnyK_done (by kernel_rfl) ?_ _
                have HFZ := hide (HFV.out.two (Fr.drew V (fun _ => False)))
                clear hS HBV HCV
                go_wp2
                go_roundw
                case rel => exact ⟨j + 1, by omega, by rw [badB_step HX.out, HBD.out, Bool.true_or], by rw [kinB_step HX.out, HKD.out, HKP.out]; rfl, by rw [dupF_step HNX.out, HTD.out, Bool.true_or], by go_num, HFZ.out⟩
                case measure => simp [intOf]; omega
        · go_wp2_with fail
          cases td
          · have HBV := hide ((HB.out.fr HFV.out (fun h => h)).fr (Fr.drew V (fun _ => False)) (fun h => h))
            have HCV := hide ((HT.out.cols.fr HFV.out (fun _ _ h => h)).fr (Fr.drew V (fun _ => False)) (fun _ _ h => h))
            refine wp_region_K (fun _ => true) (fun U : World => Fr V.drew U (fun _ => False)) (by kernel_rfl) ?_
            have hS : (fun U : World => Fr V.drew U (fun _ => False)) V.drew := Fr.refl _ _
            refine wpAnyK_takeTo 0 (some 49) (.bool false) [1, 2, 3, 4, 5, 6, 7, 8, 9, 10, 11, 12, 13] rfl rfl (by kernel_rfl) (by kernel_rfl) (by kernel_rfl) (by kernel_rfl) (fun _ _ _ h => h) hS (Or.inl ⟨rfl, fun w1 hw1 => by have hw1 : Fr V.drew w1 (fun _ => False) := hw1; obtain ⟨x0, x1, x2, x3, x4⟩ := (HBV.out.fr hw1 (fun h => h)).cells; dsimp only at x0 x1 x2 x3 x4; obtain ⟨g', off', ha', _, e0, e1⟩ := (HCV.out.fr hw1 (fun _ _ h => h)) j x HX.out; dsimp only at ha'; cases ha'; go_simp⟩) ?_
            simp only [Act.put, List.setIfInBounds_toArray, List.set_cons_zero, List.set_cons_succ]
            refine wpAnyK_takeTo 1 (some 50) (.bool false) [2, 3, 4, 5, 6, 7, 8, 9, 10, 11, 12, 13] rfl rfl (by kernel_rfl) (by kernel_rfl) (by kernel_rfl) (by kernel_rfl) (fun _ _ _ h => h) hS (Or.inl ⟨rfl, fun w1 hw1 => by have hw1 : Fr V.drew w1 (fun _ => False) := hw1; obtain ⟨x0, x1, x2, x3, x4⟩ := (HBV.out.fr hw1 (fun h => h)).cells; dsimp only at x0 x1 x2 x3 x4; obtain ⟨g', off', ha', _, e0, e1⟩ := (HCV.out.fr hw1 (fun _ _ h => h)) j x HX.out; dsimp only at ha'; cases ha'; go_simp⟩) ?_
            simp only [Act.put, List.setIfInBounds_toArray, List.set_cons_zero, List.set_cons_succ]
            refine wpAnyK_takeTo 2 (some 51) (.agg #[.int .i64 id, .string nm, .slice (some ⟨g, off, none⟩) cn cc, .slice ka kn kc, .bool ix]) [9, 11, 12, 13] rfl rfl (by kernel_rfl) (by kernel_rfl) (by kernel_rfl) (by kernel_rfl) (fun _ _ _ h => h) hS (Or.inl ⟨rfl, fun w1 hw1 => by have hw1 : Fr V.drew w1 (fun _ => False) := hw1; obtain ⟨x0, x1, x2, x3, x4⟩ := (HBV.out.fr hw1 (fun h => h)).cells; dsimp only at x0 x1 x2 x3 x4; obtain ⟨g', off', ha', _, e0, e1⟩ := (HCV.out.fr hw1 (fun _ _ h => h)) j x HX.out; dsimp only at ha'; cases ha'; go_simp⟩) ?_
            simp only [Act.put, List.setIfInBounds_toArray, List.set_cons_zero, List.set_cons_succ]
            refine wpAnyK_takeTo 3 (some 52) (.pointer (some ⟨w.heap.size, 2, none⟩)) [4, 6, 7, 8, 9, 11, 12, 13] rfl rfl (by kernel_rfl) (by kernel_rfl) (by kernel_rfl) (by kernel_rfl) (fun _ _ _ h => h) hS (Or.inl ⟨rfl, fun w1 hw1 => by have hw1 : Fr V.drew w1 (fun _ => False) := hw1; obtain ⟨x0, x1, x2, x3, x4⟩ := (HBV.out.fr hw1 (fun h => h)).cells; dsimp only at x0 x1 x2 x3 x4; obtain ⟨g', off', ha', _, e0, e1⟩ := (HCV.out.fr hw1 (fun _ _ h => h)) j x HX.out; dsimp only at ha'; cases ha'; go_simp⟩) ?_
            simp only [Act.put, List.setIfInBounds_toArray, List.set_cons_zero, List.set_cons_succ]
            refine wpAnyK_takeTo 4 (some 53) (.slice (some ⟨g, off, none⟩) cn cc) [6, 7, 8, 9, 11, 12, 13] rfl rfl (by kernel_rfl) (by kernel_rfl) (by kernel_rfl) (by kernel_rfl) (fun _ _ _ h => h) hS (Or.inl ⟨rfl, fun w1 hw1 => by have hw1 : Fr V.drew w1 (fun _ => False) := hw1; obtain ⟨x0, x1, x2, x3, x4⟩ := (HBV.out.fr hw1 (fun h => h)).cells; dsimp only at x0 x1 x2 x3 x4; obtain ⟨g', off', ha', _, e0, e1⟩ := (HCV.out.fr hw1 (fun _ _ h => h)) j x HX.out; dsimp only at ha'; cases ha'; go_simp⟩) ?_
            simp only [Act.put, List.setIfInBounds_toArray, List.set_cons_zero, List.set_cons_succ]
            refine wpAnyK_takeTo 5 (some 54) (.int .i64 (j : Int)) [6, 7, 8, 9, 11, 12, 13] rfl rfl (by kernel_rfl) (by kernel_rfl) (by kernel_rfl) (by kernel_rfl) (fun _ _ _ h => h) hS (Or.inl ⟨rfl, fun w1 hw1 => by have hw1 : Fr V.drew w1 (fun _ => False) := hw1; obtain ⟨x0, x1, x2, x3, x4⟩ := (HBV.out.fr hw1 (fun h => h)).cells; dsimp only at x0 x1 x2 x3 x4; obtain ⟨g', off', ha', _, e0, e1⟩ := (HCV.out.fr hw1 (fun _ _ h => h)) j x HX.out; dsimp only at ha'; cases ha'; go_simp⟩) ?_
            simp only [Act.put, List.setIfInBounds_toArray, List.set_cons_zero, List.set_cons_succ]
            refine wpAnyK_takeTo 6 (some 55) (.pointer (some ⟨g, off + j * 2, none⟩)) [7, 8, 9, 11, 12, 13] rfl rfl (by kernel_rfl) (by kernel_rfl) (by kernel_rfl) (by kernel_rfl) (fun _ _ _ h => h) hS (Or.inl ⟨rfl, fun w1 hw1 => by have hw1 : Fr V.drew w1 (fun _ => False) := hw1; obtain ⟨x0, x1, x2, x3, x4⟩ := (HBV.out.fr hw1 (fun h => h)).cells; dsimp only at x0 x1 x2 x3 x4; obtain ⟨g', off', ha', _, e0, e1⟩ := (HCV.out.fr hw1 (fun _ _ h => h)) j x HX.out; dsimp only at ha'; cases ha'; go_simp⟩) ?_
            simp only [Act.put, List.setIfInBounds_toArray, List.set_cons_zero, List.set_cons_succ]
            refine wpAnyK_takeTo 7 (some 56) (.pointer (some ⟨g, off + j * 2, none⟩)) [8, 9, 11, 12, 13] rfl rfl (by kernel_rfl) (by kernel_rfl) (by kernel_rfl) (by kernel_rfl) (fun _ _ _ h => h) hS (Or.inl ⟨rfl, fun w1 hw1 => by have hw1 : Fr V.drew w1 (fun _ => False) := hw1; obtain ⟨x0, x1, x2, x3, x4⟩ := (HBV.out.fr hw1 (fun h => h)).cells; dsimp only at x0 x1 x2 x3 x4; obtain ⟨g', off', ha', _, e0, e1⟩ := (HCV.out.fr hw1 (fun _ _ h => h)) j x HX.out; dsimp only at ha'; cases ha'; go_simp⟩) ?_
            simp only [Act.put, List.setIfInBounds_toArray, List.set_cons_zero, List.set_cons_succ]
            refine wpAnyK_takeTo 8 (some 57) (.string x.name) [9, 11, 12, 13] rfl rfl (by kernel_rfl) (by kernel_rfl) (by kernel_rfl) (by kernel_rfl) (fun _ _ _ h => h) hS (Or.inl ⟨rfl, fun w1 hw1 => by have hw1 : Fr V.drew w1 (fun _ => False) := hw1; obtain ⟨x0, x1, x2, x3, x4⟩ := (HBV.out.fr hw1 (fun h => h)).cells; dsimp only at x0 x1 x2 x3 x4; obtain ⟨g', off', ha', _, e0, e1⟩ := (HCV.out.fr hw1 (fun _ _ h => h)) j x HX.out; dsimp only at ha'; cases ha'; go_simp⟩) ?_
            simp only [Act.put, List.setIfInBounds_toArray, List.set_cons_zero, List.set_cons_succ]
            refine wpAnyK_takeTo 10 (some 59) (.int .i64 (j : Int)) [11, 12, 13] rfl rfl (by kernel_rfl) (by kernel_rfl) (by kernel_rfl) (by kernel_rfl) (fun _ _ _ h => h) hS (Or.inl ⟨rfl, fun w1 hw1 => by have hw1 : Fr V.drew w1 (fun _ => False) := hw1; obtain ⟨x0, x1, x2, x3, x4⟩ := (HBV.out.fr hw1 (fun h => h)).cells; dsimp only at x0 x1 x2 x3 x4; obtain ⟨g', off', ha', _, e0, e1⟩ := (HCV.out.fr hw1 (fun _ _ h => h)) j x HX.out; dsimp only at ha'; cases ha'; go_simp⟩) ?_
            simp only [Act.put, List.setIfInBounds_toArray, List.set_cons_zero, List.set_cons_succ]
            refine wpAnyK_one (i := 9) (by kernel_rfl) rfl rfl ?_
            refine wp_call_to (some 58) rfl 20 #[.agg #[.int .i64 id, .string nm, .slice (some ⟨g, off, none⟩) cn cc, .slice ka kn kc, .bool ix], .string x.name] (by go_simp) (place_ref ⟨id, nm, some ⟨g, off, none⟩, cn, cc, C, ka, kn, kc, K, ix⟩ HCV.out HT.out.cn HT.out.cb x.name) ?_
            rintro e Z ⟨r, rfl, hr, g1⟩
            refine ⟨_, rfl, fun _ => g1, ?_⟩
            have hd := place_dup HX.out hr
            obtain ⟨d, hd2⟩ : ∃ d, d = decide (r < (j : Int)) := ⟨_, rfl⟩
            rw [← hd2] at hd
            have HD := hide hd
            replace hd2 := hd2.symm
            clear hd hr
            replace hS : (fun U : World => Fr V.drew U (fun _ => False)) Z := g1
            simp only [Act.put, List.setIfInBounds_toArray, List.set_cons_zero, List.set_cons_succ]
            refine wpAnyK_takeTo 11 (some 60) (.bool d) [12, 13] rfl rfl (by kernel_rfl) (by kernel_rfl) (by kernel_rfl) (by kernel_rfl) (fun _ _ _ h => h) hS (Or.inl ⟨rfl, fun w1 hw1 => by go_simp⟩) ?_
            simp only [Act.put, List.setIfInBounds_toArray, List.set_cons_zero, List.set_cons_succ]
            refine wpAnyK_takeTo 12 (some 61) (.bool d) [13] rfl rfl (by kernel_rfl) (by kernel_rfl) (by kernel_rfl) (by kernel_rfl) (fun _ _ _ h => h) hS (Or.inl ⟨rfl, fun w1 hw1 => by go_simp⟩) ?_
            simp only [Act.put, List.setIfInBounds_toArray, List.set_cons_zero, List.set_cons_succ]
            refine wpAnyK_takeTo 13 (some 5) (.bool d) [] rfl rfl (by kernel_rfl) (by kernel_rfl) (by kernel_rfl) (by kernel_rfl) (fun _ _ _ h => h) hS (Or.inl ⟨rfl, fun w1 hw1 => by go_simp⟩) ?_
            simp only [Act.put, List.setIfInBounds_toArray, List.set_cons_zero, List.set_cons_succ]
            refine wpAnyK_done (by kernel_rfl) ?_ _
            have HFZ := hide ((HFV.out.two (Fr.drew V _)).two g1)
            clear hS g1 hd2 HBV HCV
            go_wp2
            go_roundw
            case rel => exact ⟨j + 1, by omega, by rw [badB_step HX.out, HBD.out, Bool.true_or], by rw [kinB_step HX.out, HKD.out]; rfl, by rw [dupF_step HNX.out, HTD.out, HD.out, Bool.false_or], by go_num, HFZ.out⟩
            case measure => simp [intOf]; omega
          · have HBV := hide ((HB.out.fr HFV.out (fun h => h)).fr (Fr.drew V (fun _ => False)) (fun h => h))
            have HCV := hide ((HT.out.cols.fr HFV.out (fun _ _ h => h)).fr (Fr.drew V (fun _ => False)) (fun _ _ h => h))
            refine wp_region_K (fun _ => true) (fun U : World => Fr V.drew U (fun _ => False)) (by kernel_rfl) ?_
            have hS : (fun U : World => Fr V.drew U (fun _ => False)) V.drew := Fr.refl _ _
            refine wpAnyK_takeTo 0 (some 49) (.bool true) [1, 2, 3, 4, 5, 6, 7, 8, 9, 10, 11, 12, 13] rfl rfl (by kernel_rfl) (by kernel_rfl) (by kernel_rfl) (by kernel_rfl) (fun _ _ _ h => h) hS (Or.inl ⟨rfl, fun w1 hw1 => by go_simp⟩) ?_
            simp only [Act.put, List.setIfInBounds_toArray, List.set_cons_zero, List.set_cons_succ]
            refine wpAnyK_takeTo 1 (some 50) (.bool true) [2, 3, 4, 5, 6, 7, 8, 9, 10, 11, 12, 13] rfl rfl (by kernel_rfl) (by kernel_rfl) (by kernel_rfl) (by kernel_rfl) (fun _ _ _ h => h) hS (Or.inl ⟨rfl, fun w1 hw1 => by go_simp⟩) ?_
            simp only [Act.put, List.setIfInBounds_toArray, List.set_cons_zero, List.set_cons_succ]
            refine wpAnyK_takeTo 2 (some 51) (undef) [9, 11, 12, 13] rfl rfl (by kernel_rfl) (by kernel_rfl) (by kernel_rfl) (by kernel_rfl) (fun _ _ _ h => h) hS (Or.inr ⟨rfl, rfl⟩) ?_
            simp only [Act.put, List.setIfInBounds_toArray, List.set_cons_zero, List.set_cons_succ]
            refine wpAnyK_takeTo 3 (some 52) (undef) [4, 6, 7, 8, 9, 11, 12, 13] rfl rfl (by kernel_rfl) (by kernel_rfl) (by kernel_rfl) (by kernel_rfl) (fun _ _ _ h => h) hS (Or.inr ⟨rfl, rfl⟩) ?_
            simp only [Act.put, List.setIfInBounds_toArray, List.set_cons_zero, List.set_cons_succ]
            refine wpAnyK_takeTo 4 (some 53) (undef) [6, 7, 8, 9, 11, 12, 13] rfl rfl (by kernel_rfl) (by kernel_rfl) (by kernel_rfl) (by kernel_rfl) (fun _ _ _ h => h) hS (Or.inr ⟨rfl, rfl⟩) ?_
            simp only [Act.put, List.setIfInBounds_toArray, List.set_cons_zero, List.set_cons_succ]
            refine wpAnyK_takeTo 5 (some 54) (undef) [6, 7, 8, 9, 11, 12, 13] rfl rfl (by kernel_rfl) (by kernel_rfl) (by kernel_rfl) (by kernel_rfl) (fun _ _ _ h => h) hS (Or.inr ⟨rfl, rfl⟩) ?_
            simp only [Act.put, List.setIfInBounds_toArray, List.set_cons_zero, List.set_cons_succ]
            refine wpAnyK_takeTo 6 (some 55) (undef) [7, 8, 9, 11, 12, 13] rfl rfl (by kernel_rfl) (by kernel_rfl) (by kernel_rfl) (by kernel_rfl) (fun _ _ _ h => h) hS (Or.inr ⟨rfl, rfl⟩) ?_
            simp only [Act.put, List.setIfInBounds_toArray, List.set_cons_zero, List.set_cons_succ]
            refine wpAnyK_takeTo 7 (some 56) (undef) [8, 9, 11, 12, 13] rfl rfl (by kernel_rfl) (by kernel_rfl) (by kernel_rfl) (by kernel_rfl) (fun _ _ _ h => h) hS (Or.inr ⟨rfl, rfl⟩) ?_
            simp only [Act.put, List.setIfInBounds_toArray, List.set_cons_zero, List.set_cons_succ]
            refine wpAnyK_takeTo 8 (some 57) (undef) [9, 11, 12, 13] rfl rfl (by kernel_rfl) (by kernel_rfl) (by kernel_rfl) (by kernel_rfl) (fun _ _ _ h => h) hS (Or.inr ⟨rfl, rfl⟩) ?_
            simp only [Act.put, List.setIfInBounds_toArray, List.set_cons_zero, List.set_cons_succ]
            refine wpAnyK_takeTo 9 (some 58) (undef) [11, 12, 13] rfl rfl (by kernel_rfl) (by kernel_rfl) (by kernel_rfl) (by kernel_rfl) (fun _ _ _ h => h) hS (Or.inr ⟨rfl, rfl⟩) ?_
            simp only [Act.put, List.setIfInBounds_toArray, List.set_cons_zero, List.set_cons_succ]
            refine wpAnyK_takeTo 10 (some 59) (undef) [11, 12, 13] rfl rfl (by kernel_rfl) (by kernel_rfl) (by kernel_rfl) (by kernel_rfl) (fun _ _ _ h => h) hS (Or.inr ⟨rfl, rfl⟩) ?_
            simp only [Act.put, List.setIfInBounds_toArray, List.set_cons_zero, List.set_cons_succ]
            refine wpAnyK_takeTo 11 (some 60) (undef) [12, 13] rfl rfl (by kernel_rfl) (by kernel_rfl) (by kernel_rfl) (by kernel_rfl) (fun _ _ _ h => h) hS (Or.inr ⟨rfl, rfl⟩) ?_
            simp only [Act.put, List.setIfInBounds_toArray, List.set_cons_zero, List.set_cons_succ]
            refine wpAnyK_takeTo 12 (some 61) (.bool true) [13] rfl rfl (by kernel_rfl) (by kernel_rfl) (by kernel_rfl) (by kernel_rfl) (fun _ _ _ h => h) hS (Or.inl ⟨rfl, fun w1 hw1 => by go_simp⟩) ?_
            simp only [Act.put, List.setIfInBounds_toArray, List.set_cons_zero, List.set_cons_succ]
            refine wpAnyK_takeTo 13 (some 5) (.bool true) [] rfl rfl (by kernel_rfl) (by kernel_rfl) (by kernel_rfl) (by kernel_rfl) (fun _ _ _ h => h) hS (Or.inl ⟨rfl, fun w1 hw1 => by go_simp⟩) ?_
            simp only [Act.put, List.setIfInBounds_toArray, List.set_cons_zero, List.set_cons_succ]
            refine wpAnyK_done (by kernel_rfl) ?_ _
            have HFZ := hide (HFV.out.two (Fr.drew V (fun _ => False)))
            clear hS HBV HCV
            go_wp2
            go_roundw
            case rel => exact ⟨j + 1, by omega, by rw [badB_step HX.out, HBD.out, Bool.true_or], by rw [kinB_step HX.out, HKD.out]; rfl, by rw [dupF_step HNX.out, HTD.out, Bool.true_or], by go_num, HFZ.out⟩
            case measure => simp [intOf]; omega
    · obtain rfl : cn = j := by omega
      have hcj : ¬ ((cn : Int) < (cn : Int)) := by omega
      obtain ⟨b1, hb1⟩ : ∃ b1, b1 = badB nm C cn := ⟨_, rfl⟩
      obtain ⟨k1, hk1⟩ : ∃ k1, k1 = kinB C cn := ⟨_, rfl⟩
      obtain ⟨d1, hd1⟩ : ∃ d1, d1 = dupF (C.map Cn.name) cn := ⟨_, rfl⟩
      rw [← hb1, ← hk1, ← hd1]
      have HB1 := hide hb1
      have HK1 := hide hk1
      have HD1 := hide hd1
      clear hb1 hk1 hd1
      go_wp2_with fail
      go_loopw [5, 7, 8] (fun tv mv ix wr => ∃ j : Nat, j ≤ kn ∧ tv = .bool (dupF (C.map Cn.name) cn || dupF K j) ∧ mv = .bool (misB C K j) ∧ ix = .int .i64 (j : Int) ∧ Fr w1 wr (fun _ => False)) (fun _ _ ix _ => kn - (intOf ix).toNat)
      case atStart => exact ⟨0, Nat.zero_le _, by rw [HD1.out]; simp [dupF], rfl, rfl, HFW.out⟩
      case round =>
        clear x0 x1 x2 x3 x4 HFW
        rename World => W
        obtain ⟨j, hj2, rfl, rfl, rfl, hf⟩ := hrel
        have HFW := hide hf
        clear hf
        obtain ⟨x0, x1, x2, x3, x4⟩ := (HB.out.fr HFW.out (fun h => h)).cells
        dsimp only at x0 x1 x2 x3 x4
        rcases Nat.lt_or_ge j kn with hlt | hge2
        · obtain ⟨y, hy⟩ : ∃ y, K[j]? = some y := ⟨_, List.getElem?_eq_getElem (by rw [HKN.out]; exact hlt)⟩
          obtain ⟨g, off, ha, _, e0⟩ := (HT.out.keys.fr HFW.out (fun _ _ h => h)) j y hy
          dsimp only at ha
          subst ha
          have HY := hide hy
          obtain ⟨md, hmd⟩ : ∃ md, misB C K j = md := ⟨_, rfl⟩
          rw [hmd]
          have HMD := hide hmd
          clear hy hmd
          go_wp2_with fail
          cases md
          · have HBV := hide ((HB.out.fr HFW.out (fun h => h)).fr (Fr.drew W (fun _ => False)) (fun h => h))
            have HCV := hide ((HT.out.cols.fr HFW.out (fun _ _ h => h)).fr (Fr.drew W (fun _ => False)) (fun _ _ h => h))
            have HKV := hide ((HT.out.keys.fr HFW.out (fun _ _ h => h)).fr (Fr.drew W (fun _ => False)) (fun _ _ h => h))
            refine wp_region_K (fun _ => true) (fun U : World => Fr W.drew U (fun _ => False)) (by kernel_rfl) ?_
            have hS : (fun U : World => Fr W.drew U (fun _ => False)) W.drew := Fr.refl _ _
            refine wpAnyK_takeTo 0 (some 69) (.bool false) [1, 2, 3, 4, 5, 6, 7, 8, 9, 10, 11] rfl rfl (by kernel_rfl) (by kernel_rfl) (by kernel_rfl) (by kernel_rfl) (fun _ _ _ h => h) hS (Or.inl ⟨rfl, fun w1 hw1 => by have hw1 : Fr W.drew w1 (fun _ => False) := hw1; obtain ⟨x0, x1, x2, x3, x4⟩ := (HBV.out.fr hw1 (fun h => h)).cells; dsimp only at x0 x1 x2 x3 x4; obtain ⟨g', off', ha', _, e0⟩ := (HKV.out.fr hw1 (fun _ _ h => h)) j y HY.out; dsimp only at ha'; cases ha'; go_simp⟩) ?_
            simp only [Act.put, List.setIfInBounds_toArray, List.set_cons_zero, List.set_cons_succ]
            refine wpAnyK_takeTo 1 (some 70) (.bool false) [2, 3, 4, 5, 6, 7, 8, 9, 10, 11] rfl rfl (by kernel_rfl) (by kernel_rfl) (by kernel_rfl) (by kernel_rfl) (fun _ _ _ h => h) hS (Or.inl ⟨rfl, fun w1 hw1 => by have hw1 : Fr W.drew w1 (fun _ => False) := hw1; obtain ⟨x0, x1, x2, x3, x4⟩ := (HBV.out.fr hw1 (fun h => h)).cells; dsimp only at x0 x1 x2 x3 x4; obtain ⟨g', off', ha', _, e0⟩ := (HKV.out.fr hw1 (fun _ _ h => h)) j y HY.out; dsimp only at ha'; cases ha'; go_simp⟩) ?_
            simp only [Act.put, List.setIfInBounds_toArray, List.set_cons_zero, List.set_cons_succ]
            refine wpAnyK_takeTo 2 (some 71) (.agg #[.int .i64 id, .string nm, .slice ca cn cc, .slice (some ⟨g, off, none⟩) kn kc, .bool ix]) [8, 9, 10, 11] rfl rfl (by kernel_rfl) (by kernel_rfl) (by kernel_rfl) (by kernel_rfl) (fun _ _ _ h => h) hS (Or.inl ⟨rfl, fun w1 hw1 => by have hw1 : Fr W.drew w1 (fun _ => False) := hw1; obtain ⟨x0, x1, x2, x3, x4⟩ := (HBV.out.fr hw1 (fun h => h)).cells; dsimp only at x0 x1 x2 x3 x4; obtain ⟨g', off', ha', _, e0⟩ := (HKV.out.fr hw1 (fun _ _ h => h)) j y HY.out; dsimp only at ha'; cases ha'; go_simp⟩) ?_
            simp only [Act.put, List.setIfInBounds_toArray, List.set_cons_zero, List.set_cons_succ]
            refine wpAnyK_takeTo 3 (some 72) (.pointer (some ⟨w.heap.size, 3, none⟩)) [4, 6, 7, 8, 9, 10, 11] rfl rfl (by kernel_rfl) (by kernel_rfl) (by kernel_rfl) (by kernel_rfl) (fun _ _ _ h => h) hS (Or.inl ⟨rfl, fun w1 hw1 => by have hw1 : Fr W.drew w1 (fun _ => False) := hw1; obtain ⟨x0, x1, x2, x3, x4⟩ := (HBV.out.fr hw1 (fun h => h)).cells; dsimp only at x0 x1 x2 x3 x4; obtain ⟨g', off', ha', _, e0⟩ := (HKV.out.fr hw1 (fun _ _ h => h)) j y HY.out; dsimp only at ha'; cases ha'; go_simp⟩) ?_
            simp only [Act.put, List.setIfInBounds_toArray, List.set_cons_zero, List.set_cons_succ]
            refine wpAnyK_takeTo 4 (some 73) (.slice (some ⟨g, off, none⟩) kn kc) [6, 7, 8, 9, 10, 11] rfl rfl (by kernel_rfl) (by kernel_rfl) (by kernel_rfl) (by kernel_rfl) (fun _ _ _ h => h) hS (Or.inl ⟨rfl, fun w1 hw1 => by have hw1 : Fr W.drew w1 (fun _ => False) := hw1; obtain ⟨x0, x1, x2, x3, x4⟩ := (HBV.out.fr hw1 (fun h => h)).cells; dsimp only at x0 x1 x2 x3 x4; obtain ⟨g', off', ha', _, e0⟩ := (HKV.out.fr hw1 (fun _ _ h => h)) j y HY.out; dsimp only at ha'; cases ha'; go_simp⟩) ?_
            simp only [Act.put, List.setIfInBounds_toArray, List.set_cons_zero, List.set_cons_succ]
            refine wpAnyK_takeTo 5 (some 74) (.int .i64 (j : Int)) [6, 7, 8, 9, 10, 11] rfl rfl (by kernel_rfl) (by kernel_rfl) (by kernel_rfl) (by kernel_rfl) (fun _ _ _ h => h) hS (Or.inl ⟨rfl, fun w1 hw1 => by have hw1 : Fr W.drew w1 (fun _ => False) := hw1; obtain ⟨x0, x1, x2, x3, x4⟩ := (HBV.out.fr hw1 (fun h => h)).cells; dsimp only at x0 x1 x2 x3 x4; obtain ⟨g', off', ha', _, e0⟩ := (HKV.out.fr hw1 (fun _ _ h => h)) j y HY.out; dsimp only at ha'; cases ha'; go_simp⟩) ?_
            simp only [Act.put, List.setIfInBounds_toArray, List.set_cons_zero, List.set_cons_succ]
            refine wpAnyK_takeTo 6 (some 75) (.pointer (some ⟨g, off + j, none⟩)) [7, 8, 9, 10, 11] rfl rfl (by kernel_rfl) (by kernel_rfl) (by kernel_rfl) (by kernel_rfl) (fun _ _ _ h => h) hS (Or.inl ⟨rfl, fun w1 hw1 => by have hw1 : Fr W.drew w1 (fun _ => False) := hw1; obtain ⟨x0, x1, x2, x3, x4⟩ := (HBV.out.fr hw1 (fun h => h)).cells; dsimp only at x0 x1 x2 x3 x4; obtain ⟨g', off', ha', _, e0⟩ := (HKV.out.fr hw1 (fun _ _ h => h)) j y HY.out; dsimp only at ha'; cases ha'; go_simp⟩) ?_
            simp only [Act.put, List.setIfInBounds_toArray, List.set_cons_zero, List.set_cons_succ]
            refine wpAnyK_takeTo 7 (some 76) (.string y) [8, 9, 10, 11] rfl rfl (by kernel_rfl) (by kernel_rfl) (by kernel_rfl) (by kernel_rfl) (fun _ _ _ h => h) hS (Or.inl ⟨rfl, fun w1 hw1 => by have hw1 : Fr W.drew w1 (fun _ => False) := hw1; obtain ⟨x0, x1, x2, x3, x4⟩ := (HBV.out.fr hw1 (fun h => h)).cells; dsimp only at x0 x1 x2 x3 x4; obtain ⟨g', off', ha', _, e0⟩ := (HKV.out.fr hw1 (fun _ _ h => h)) j y HY.out; dsimp only at ha'; cases ha'; go_simp⟩) ?_
            simp only [Act.put, List.setIfInBounds_toArray, List.set_cons_zero, List.set_cons_succ]
            refine wpAnyK_one (i := 8) (by kernel_rfl) rfl rfl ?_
            refine wp_call_to (some 77) rfl 20 #[.agg #[.int .i64 id, .string nm, .slice ca cn cc, .slice (some ⟨g, off, none⟩) kn kc, .bool ix], .string y] (by go_simp) (place_ref ⟨id, nm, ca, cn, cc, C, some ⟨g, off, none⟩, kn, kc, K, ix⟩ HCV.out HT.out.cn HT.out.cb y) ?_
            rintro e Z ⟨r, rfl, hr, g1⟩
            refine ⟨_, rfl, fun _ => g1, ?_⟩
            have hd := place_neg hr
            obtain ⟨d, hd2⟩ : ∃ d, d = decide (r < 0) := ⟨_, rfl⟩
            rw [← hd2] at hd
            have HD := hide hd
            replace hd2 := hd2.symm
            clear hd hr
            replace hS : (fun U : World => Fr W.drew U (fun _ => False)) Z := g1
            simp only [Act.put, List.setIfInBounds_toArray, List.set_cons_zero, List.set_cons_succ]
            refine wpAnyK_takeTo 9 (some 78) (.bool d) [10, 11] rfl rfl (by kernel_rfl) (by kernel_rfl) (by kernel_rfl) (by kernel_rfl) (fun _ _ _ h => h) hS (Or.inl ⟨rfl, fun w1 hw1 => by go_simp⟩) ?_
            simp only [Act.put, List.setIfInBounds_toArray, List.set_cons_zero, List.set_cons_succ]
            refine wpAnyK_takeTo 10 (some 79) (.bool d) [11] rfl rfl (by kernel_rfl) (by kernel_rfl) (by kernel_rfl) (by kernel_rfl) (fun _ _ _ h => h) hS (Or.inl ⟨rfl, fun w1 hw1 => by go_simp⟩) ?_
            simp only [Act.put, List.setIfInBounds_toArray, List.set_cons_zero, List.set_cons_succ]
            refine wpAnyK_takeTo 11 (some 7) (.bool d) [] rfl rfl (by kernel_rfl) (by kernel_rfl) (by kernel_rfl) (by kernel_rfl) (fun _ _ _ h => h) hS (Or.inl ⟨rfl, fun w1 hw1 => by go_simp⟩) ?_
            simp only [Act.put, List.setIfInBounds_toArray, List.set_cons_zero, List.set_cons_succ]
            refine wpAnyK_done (by kernel_rfl) ?_ _
            have HFZ := hide ((HFW.out.two (Fr.drew W _)).two g1)
            clear hS g1 hd2 HBV HCV HKV
            go_wp2_with fail
            obtain ⟨tw, htw⟩ : ∃ tw, tw = (dupF (C.map Cn.name) cn || dupF K j) := ⟨_, rfl⟩
            rw [← htw]
            have HTW := hide htw
            clear htw
            go_loopw [5, 9] (fun tv ix wr => ∃ m : Nat, m ≤ j ∧ tv = .bool (tw || inB y (K.take m)) ∧ ix = .int .i64 (m : Int) ∧ Fr w1 wr (fun _ => False)) (fun _ ix _ => j - (intOf ix).toNat)
            case atStart => exact ⟨0, Nat.zero_le _, by rw [List.take_zero]; simp [inB], rfl, HFZ.out⟩
            case round =>
              rename World => Y
              obtain ⟨m, hm, rfl, rfl, hf⟩ := hrel
              have HFY := hide hf
              clear hf
              rcases Nat.lt_or_ge m j with hlt2 | hge2
              · obtain ⟨z, hz⟩ : ∃ z, K[m]? = some z := ⟨_, List.getElem?_eq_getElem (by rw [HKN.out]; omega)⟩
                have hmk : m < kn := by omega
                have HZ := hide hz
                have HIN : Hid (inB y (K.take (m + 1)) = (inB y (K.take m) || decide (z = y))) := hide (by unfold inB; rw [List.take_add_one, hz, List.any_append]; simp)
                clear hz
                obtain ⟨tv, htv⟩ : ∃ tv, tv = (tw || inB y (K.take m)) := ⟨_, rfl⟩
                rw [← htv]
                have HTV := hide htv.symm
                clear htv
                go_wp2_with fail
                have HBY := hide ((HB.out.fr HFY.out (fun h => h)).fr (Fr.drew Y (fun _ => False)) (fun h => h))
                have HKY := hide ((HT.out.keys.fr HFY.out (fun _ _ h => h)).fr (Fr.drew Y (fun _ => False)) (fun _ _ h => h))
                have HFD := hide (HFY.out.two (Fr.drew Y (fun _ => False)))
                cases tv
                · by_cases he : z = y
                  · have heb : (z.toList == y.toList) = true := by simp [he]
                    have hel : z.toList = y.toList := by rw [he]
                    have HE := hide he
                    clear he
                    refine wp_region_K (fun _ => true) (fun U : World => Fr Y.drew U (fun _ => False)) (by kernel_rfl) ?_
                    have hS : (fun U : World => Fr Y.drew U (fun _ => False)) Y.drew := Fr.refl _ _
                    refine wpAnyK_takeTo 0 (some 85) (.bool false) [1, 2, 3, 4, 5, 6, 7, 8, 9, 10, 11, 12, 13, 14] rfl rfl (by kernel_rfl) (by kernel_rfl) (by kernel_rfl) (by kernel_rfl) (fun _ _ _ h => h) hS (Or.inl ⟨rfl, fun w1 hw1 => by have hw1 : Fr Y.drew w1 (fun _ => False) := hw1; obtain ⟨x0, x1, x2, x3, x4⟩ := (HBY.out.fr hw1 (fun h => h)).cells; dsimp only at x0 x1 x2 x3 x4; obtain ⟨g', off', ha', _, e0⟩ := (HKY.out.fr hw1 (fun _ _ h => h)) j y HY.out; obtain ⟨g2, off2, ha2, _, e2⟩ := (HKY.out.fr hw1 (fun _ _ h => h)) m z HZ.out; dsimp only at ha' ha2; cases ha'; cases ha2; go_simp⟩) ?_
                    simp only [Act.put, List.setIfInBounds_toArray, List.set_cons_zero, List.set_cons_succ]
                    refine wpAnyK_takeTo 1 (some 86) (.bool false) [2, 3, 4, 5, 6, 7, 8, 9, 10, 11, 12, 13, 14] rfl rfl (by kernel_rfl) (by kernel_rfl) (by kernel_rfl) (by kernel_rfl) (fun _ _ _ h => h) hS (Or.inl ⟨rfl, fun w1 hw1 => by have hw1 : Fr Y.drew w1 (fun _ => False) := hw1; obtain ⟨x0, x1, x2, x3, x4⟩ := (HBY.out.fr hw1 (fun h => h)).cells; dsimp only at x0 x1 x2 x3 x4; obtain ⟨g', off', ha', _, e0⟩ := (HKY.out.fr hw1 (fun _ _ h => h)) j y HY.out; obtain ⟨g2, off2, ha2, _, e2⟩ := (HKY.out.fr hw1 (fun _ _ h => h)) m z HZ.out; dsimp only at ha' ha2; cases ha'; cases ha2; go_simp⟩) ?_
                    simp only [Act.put, List.setIfInBounds_toArray, List.set_cons_zero, List.set_cons_succ]
                    refine wpAnyK_takeTo 2 (some 87) (.pointer (some ⟨w.heap.size, 3, none⟩)) [3, 5, 6, 12, 13, 14] rfl rfl (by kernel_rfl) (by kernel_rfl) (by kernel_rfl) (by kernel_rfl) (fun _ _ _ h => h) hS (Or.inl ⟨rfl, fun w1 hw1 => by have hw1 : Fr Y.drew w1 (fun _ => False) := hw1; obtain ⟨x0, x1, x2, x3, x4⟩ := (HBY.out.fr hw1 (fun h => h)).cells; dsimp only at x0 x1 x2 x3 x4; obtain ⟨g', off', ha', _, e0⟩ := (HKY.out.fr hw1 (fun _ _ h => h)) j y HY.out; obtain ⟨g2, off2, ha2, _, e2⟩ := (HKY.out.fr hw1 (fun _ _ h => h)) m z HZ.out; dsimp only at ha' ha2; cases ha'; cases ha2; go_simp⟩) ?_
                    simp only [Act.put, List.setIfInBounds_toArray, List.set_cons_zero, List.set_cons_succ]
                    refine wpAnyK_takeTo 3 (some 88) (.slice (some ⟨g, off, none⟩) kn kc) [5, 6, 12, 13, 14] rfl rfl (by kernel_rfl) (by kernel_rfl) (by kernel_rfl) (by kernel_rfl) (fun _ _ _ h => h) hS (Or.inl ⟨rfl, fun w1 hw1 => by have hw1 : Fr Y.drew w1 (fun _ => False) := hw1; obtain ⟨x0, x1, x2, x3, x4⟩ := (HBY.out.fr hw1 (fun h => h)).cells; dsimp only at x0 x1 x2 x3 x4; obtain ⟨g', off', ha', _, e0⟩ := (HKY.out.fr hw1 (fun _ _ h => h)) j y HY.out; obtain ⟨g2, off2, ha2, _, e2⟩ := (HKY.out.fr hw1 (fun _ _ h => h)) m z HZ.out; dsimp only at ha' ha2; cases ha'; cases ha2; go_simp⟩) ?_
                    simp only [Act.put, List.setIfInBounds_toArray, List.set_cons_zero, List.set_cons_succ]
                    refine wpAnyK_takeTo 4 (some 89) (.int .i64 (m : Int)) [5, 6, 12, 13, 14] rfl rfl (by kernel_rfl) (by kernel_rfl) (by kernel_rfl) (by kernel_rfl) (fun _ _ _ h => h) hS (Or.inl ⟨rfl, fun w1 hw1 => by have hw1 : Fr Y.drew w1 (fun _ => False) := hw1; obtain ⟨x0, x1, x2, x3, x4⟩ := (HBY.out.fr hw1 (fun h => h)).cells; dsimp only at x0 x1 x2 x3 x4; obtain ⟨g', off', ha', _, e0⟩ := (HKY.out.fr hw1 (fun _ _ h => h)) j y HY.out; obtain ⟨g2, off2, ha2, _, e2⟩ := (HKY.out.fr hw1 (fun _ _ h => h)) m z HZ.out; dsimp only at ha' ha2; cases ha'; cases ha2; go_simp⟩) ?_
                    simp only [Act.put, List.setIfInBounds_toArray, List.set_cons_zero, List.set_cons_succ]
                    refine wpAnyK_takeTo 5 (some 90) (.pointer (some ⟨g, off + m, none⟩)) [6, 12, 13, 14] rfl rfl (by kernel_rfl) (by kernel_rfl) (by kernel_rfl) (by kernel_rfl) (fun _ _ _ h => h) hS (Or.inl ⟨rfl, fun w1 hw1 => by have hw1 : Fr Y.drew w1 (fun _ => False) := hw1; obtain ⟨x0, x1, x2, x3, x4⟩ := (HBY.out.fr hw1 (fun h => h)).cells; dsimp only at x0 x1 x2 x3 x4; obtain ⟨g', off', ha', _, e0⟩ := (HKY.out.fr hw1 (fun _ _ h => h)) j y HY.out; obtain ⟨g2, off2, ha2, _, e2⟩ := (HKY.out.fr hw1 (fun _ _ h => h)) m z HZ.out; dsimp only at ha' ha2; cases ha'; cases ha2; go_simp⟩) ?_
                    simp only [Act.put, List.setIfInBounds_toArray, List.set_cons_zero, List.set_cons_succ]
                    refine wpAnyK_takeTo 6 (some 91) (.string z) [12, 13, 14] rfl rfl (by kernel_rfl) (by kernel_rfl) (by kernel_rfl) (by kernel_rfl) (fun _ _ _ h => h) hS (Or.inl ⟨rfl, fun w1 hw1 => by have hw1 : Fr Y.drew w1 (fun _ => False) := hw1; obtain ⟨x0, x1, x2, x3, x4⟩ := (HBY.out.fr hw1 (fun h => h)).cells; dsimp only at x0 x1 x2 x3 x4; obtain ⟨g', off', ha', _, e0⟩ := (HKY.out.fr hw1 (fun _ _ h => h)) j y HY.out; obtain ⟨g2, off2, ha2, _, e2⟩ := (HKY.out.fr hw1 (fun _ _ h => h)) m z HZ.out; dsimp only at ha' ha2; cases ha'; cases ha2; go_simp⟩) ?_
                    simp only [Act.put, List.setIfInBounds_toArray, List.set_cons_zero, List.set_cons_succ]
                    refine wpAnyK_takeTo 7 (some 92) (.pointer (some ⟨w.heap.size, 3, none⟩)) [8, 10, 11, 12, 13, 14] rfl rfl (by kernel_rfl) (by kernel_rfl) (by kernel_rfl) (by kernel_rfl) (fun _ _ _ h => h) hS (Or.inl ⟨rfl, fun w1 hw1 => by have hw1 : Fr Y.drew w1 (fun _ => False) := hw1; obtain ⟨x0, x1, x2, x3, x4⟩ := (HBY.out.fr hw1 (fun h => h)).cells; dsimp only at x0 x1 x2 x3 x4; obtain ⟨g', off', ha', _, e0⟩ := (HKY.out.fr hw1 (fun _ _ h => h)) j y HY.out; obtain ⟨g2, off2, ha2, _, e2⟩ := (HKY.out.fr hw1 (fun _ _ h => h)) m z HZ.out; dsimp only at ha' ha2; cases ha'; cases ha2; go_simp⟩) ?_
                    simp only [Act.put, List.setIfInBounds_toArray, List.set_cons_zero, List.set_cons_succ]
                    refine wpAnyK_takeTo 8 (some 93) (.slice (some ⟨g, off, none⟩) kn kc) [10, 11, 12, 13, 14] rfl rfl (by kernel_rfl) (by kernel_rfl) (by kernel_rfl) (by kernel_rfl) (fun _ _ _ h => h) hS (Or.inl ⟨rfl, fun w1 hw1 => by have hw1 : Fr Y.drew w1 (fun _ => False) := hw1; obtain ⟨x0, x1, x2, x3, x4⟩ := (HBY.out.fr hw1 (fun h => h)).cells; dsimp only at x0 x1 x2 x3 x4; obtain ⟨g', off', ha', _, e0⟩ := (HKY.out.fr hw1 (fun _ _ h => h)) j y HY.out; obtain ⟨g2, off2, ha2, _, e2⟩ := (HKY.out.fr hw1 (fun _ _ h => h)) m z HZ.out; dsimp only at ha' ha2; cases ha'; cases ha2; go_simp⟩) ?_
                    simp only [Act.put, List.setIfInBounds_toArray, List.set_cons_zero, List.set_cons_succ]
                    refine wpAnyK_takeTo 9 (some 94) (.int .i64 (j : Int)) [10, 11, 12, 13, 14] rfl rfl (by kernel_rfl) (by kernel_rfl) (by kernel_rfl) (by kernel_rfl) (fun _ _ _ h => h) hS (Or.inl ⟨rfl, fun w1 hw1 => by have hw1 : Fr Y.drew w1 (fun _ => False) := hw1; obtain ⟨x0, x1, x2, x3, x4⟩ := (HBY.out.fr hw1 (fun h => h)).cells; dsimp only at x0 x1 x2 x3 x4; obtain ⟨g', off', ha', _, e0⟩ := (HKY.out.fr hw1 (fun _ _ h => h)) j y HY.out; obtain ⟨g2, off2, ha2, _, e2⟩ := (HKY.out.fr hw1 (fun _ _ h => h)) m z HZ.out; dsimp only at ha' ha2; cases ha'; cases ha2; go_simp⟩) ?_
                    simp only [Act.put, List.setIfInBounds_toArray, List.set_cons_zero, List.set_cons_succ]
                    refine wpAnyK_takeTo 10 (some 95) (.pointer (some ⟨g, off + j, none⟩)) [11, 12, 13, 14] rfl rfl (by kernel_rfl) (by kernel_rfl) (by kernel_rfl) (by kernel_rfl) (fun _ _ _ h => h) hS (Or.inl ⟨rfl, fun w1 hw1 => by have hw1 : Fr Y.drew w1 (fun _ => False) := hw1; obtain ⟨x0, x1, x2, x3, x4⟩ := (HBY.out.fr hw1 (fun h => h)).cells; dsimp only at x0 x1 x2 x3 x4; obtain ⟨g', off', ha', _, e0⟩ := (HKY.out.fr hw1 (fun _ _ h => h)) j y HY.out; obtain ⟨g2, off2, ha2, _, e2⟩ := (HKY.out.fr hw1 (fun _ _ h => h)) m z HZ.out; dsimp only at ha' ha2; cases ha'; cases ha2; go_simp⟩) ?_
                    simp only [Act.put, List.setIfInBounds_toArray, List.set_cons_zero, List.set_cons_succ]
                    refine wpAnyK_takeTo 11 (some 96) (.string y) [12, 13, 14] rfl rfl (by kernel_rfl) (by kernel_rfl) (by kernel_rfl) (by kernel_rfl) (fun _ _ _ h => h) hS (Or.inl ⟨rfl, fun w1 hw1 => by have hw1 : Fr Y.drew w1 (fun _ => False) := hw1; obtain ⟨x0, x1, x2, x3, x4⟩ := (HBY.out.fr hw1 (fun h => h)).cells; dsimp only at x0 x1 x2 x3 x4; obtain ⟨g', off', ha', _, e0⟩ := (HKY.out.fr hw1 (fun _ _ h => h)) j y HY.out; obtain ⟨g2, off2, ha2, _, e2⟩ := (HKY.out.fr hw1 (fun _ _ h => h)) m z HZ.out; dsimp only at ha' ha2; cases ha'; cases ha2; go_simp⟩) ?_
                    simp only [Act.put, List.setIfInBounds_toArray, List.set_cons_zero, List.set_cons_succ]
                    refine wpAnyK_takeTo 12 (some 97) (.bool true) [13, 14] rfl rfl (by kernel_rfl) (by kernel_rfl) (by kernel_rfl) (by kernel_rfl) (fun _ _ _ h => h) hS (Or.inl ⟨rfl, fun w1 hw1 => by have hw1 : Fr Y.drew w1 (fun _ => False) := hw1; obtain ⟨x0, x1, x2, x3, x4⟩ := (HBY.out.fr hw1 (fun h => h)).cells; dsimp only at x0 x1 x2 x3 x4; obtain ⟨g', off', ha', _, e0⟩ := (HKY.out.fr hw1 (fun _ _ h => h)) j y HY.out; obtain ⟨g2, off2, ha2, _, e2⟩ := (HKY.out.fr hw1 (fun _ _ h => h)) m z HZ.out; dsimp only at ha' ha2; cases ha'; cases ha2; go_simp⟩) ?_
                    simp only [Act.put, List.setIfInBounds_toArray, List.set_cons_zero, List.set_cons_succ]
                    refine wpAnyK_takeTo 13 (some 98) (.bool true) [14] rfl rfl (by kernel_rfl) (by kernel_rfl) (by kernel_rfl) (by kernel_rfl) (fun _ _ _ h => h) hS (Or.inl ⟨rfl, fun w1 hw1 => by have hw1 : Fr Y.drew w1 (fun _ => False) := hw1; obtain ⟨x0, x1, x2, x3, x4⟩ := (HBY.out.fr hw1 (fun h => h)).cells; dsimp only at x0 x1 x2 x3 x4; obtain ⟨g', off', ha', _, e0⟩ := (HKY.out.fr hw1 (fun _ _ h => h)) j y HY.out; obtain ⟨g2, off2, ha2, _, e2⟩ := (HKY.out.fr hw1 (fun _ _ h => h)) m z HZ.out; dsimp only at ha' ha2; cases ha'; cases ha2; go_simp⟩) ?_
                    simp only [Act.put, List.setIfInBounds_toArray, List.set_cons_zero, List.set_cons_succ]
                    refine wpAnyK_takeTo 14 (some 5) (.bool true) [] rfl rfl (by kernel_rfl) (by kernel_rfl) (by kernel_rfl) (by kernel_rfl) (fun _ _ _ h => h) hS (Or.inl ⟨rfl, fun w1 hw1 => by have hw1 : Fr Y.drew w1 (fun _ => False) := hw1; obtain ⟨x0, x1, x2, x3, x4⟩ := (HBY.out.fr hw1 (fun h => h)).cells; dsimp only at x0 x1 x2 x3 x4; obtain ⟨g', off', ha', _, e0⟩ := (HKY.out.fr hw1 (fun _ _ h => h)) j y HY.out; obtain ⟨g2, off2, ha2, _, e2⟩ := (HKY.out.fr hw1 (fun _ _ h => h)) m z HZ.out; dsimp only at ha' ha2; cases ha'; cases ha2; go_simp⟩) ?_
                    simp only [Act.put, List.setIfInBounds_toArray, List.set_cons_zero, List.set_cons_succ]
                    refine wpAnyK_done (by kernel_rfl) ?_ _
                    clear hS HBY HKY
                    go_wp2
                    go_roundw
                    case rel => exact ⟨m + 1, by omega, by rw [HIN.out, ← Bool.or_assoc, HTV.out, HE.out]; simp, by go_num, HFD.out⟩
                    case measure => simp [intOf]; omega
                  · have heb : (z.toList == y.toList) = false := (Go.Lib.bytes_beq_false_iff z y).2 he
                    have hnl : ¬ (z.toList = y.toList) := by simpa using heb
                    have HE := hide he
                    clear he
                    refine wp_region_K (fun _ => true) (fun U : World => Fr Y.drew U (fun _ => False)) (by kernel_rfl) ?_
                    have hS : (fun U : World => Fr Y.drew U (fun _ => False)) Y.drew := Fr.refl _ _
                    refine wpAnyK_takeTo 0 (some 85) (.bool false) [1, 2, 3, 4, 5, 6, 7, 8, 9, 10, 11, 12, 13, 14] rfl rfl (by kernel_rfl) (by kernel_rfl) (by kernel_rfl) (by kernel_rfl) (fun _ _ _ h => h) hS (Or.inl ⟨rfl, fun w1 hw1 => by have hw1 : Fr Y.drew w1 (fun _ => False) := hw1; obtain ⟨x0, x1, x2, x3, x4⟩ := (HBY.out.fr hw1 (fun h => h)).cells; dsimp only at x0 x1 x2 x3 x4; obtain ⟨g', off', ha', _, e0⟩ := (HKY.out.fr hw1 (fun _ _ h => h)) j y HY.out; obtain ⟨g2, off2, ha2, _, e2⟩ := (HKY.out.fr hw1 (fun _ _ h => h)) m z HZ.out; dsimp only at ha' ha2; cases ha'; cases ha2; go_simp⟩) ?_
                    simp only [Act.put, List.setIfInBounds_toArray, List.set_cons_zero, List.set_cons_succ]
                    refine wpAnyK_takeTo 1 (some 86) (.bool false) [2, 3, 4, 5, 6, 7, 8, 9, 10, 11, 12, 13, 14] rfl rfl (by kernel_rfl) (by kernel_rfl) (by kernel_rfl) (by kernel_rfl) (fun _ _ _ h => h) hS (Or.inl ⟨rfl, fun w1 hw1 => by have hw1 : Fr Y.drew w1 (fun _ => False) := hw1; obtain ⟨x0, x1, x2, x3, x4⟩ := (HBY.out.fr hw1 (fun h => h)).cells; dsimp only at x0 x1 x2 x3 x4; obtain ⟨g', off', ha', _, e0⟩ := (HKY.out.fr hw1 (fun _ _ h => h)) j y HY.out; obtain ⟨g2, off2, ha2, _, e2⟩ := (HKY.out.fr hw1 (fun _ _ h => h)) m z HZ.out; dsimp only at ha' ha2; cases ha'; cases ha2; go_simp⟩) ?_
                    simp only [Act.put, List.setIfInBounds_toArray, List.set_cons_zero, List.set_cons_succ]
                    refine wpAnyK_takeTo 2 (some 87) (.pointer (some ⟨w.heap.size, 3, none⟩)) [3, 5, 6, 12, 13, 14] rfl rfl (by kernel_rfl) (by kernel_rfl) (by kernel_rfl) (by kernel_rfl) (fun _ _ _ h => h) hS (Or.inl ⟨rfl, fun w1 hw1 => by have hw1 : Fr Y.drew w1 (fun _ => False) := hw1; obtain ⟨x0, x1, x2, x3, x4⟩ := (HBY.out.fr hw1 (fun h => h)).cells; dsimp only at x0 x1 x2 x3 x4; obtain ⟨g', off', ha', _, e0⟩ := (HKY.out.fr hw1 (fun _ _ h => h)) j y HY.out; obtain ⟨g2, off2, ha2, _, e2⟩ := (HKY.out.fr hw1 (fun _ _ h => h)) m z HZ.out; dsimp only at ha' ha2; cases ha'; cases ha2; go_simp⟩) ?_
                    simp only [Act.put, List.setIfInBounds_toArray, List.set_cons_zero, List.set_cons_succ]
                    refine wpAnyK_takeTo 3 (some 88) (.slice (some ⟨g, off, none⟩) kn kc) [5, 6, 12, 13, 14] rfl rfl (by kernel_rfl) (by kernel_rfl) (by kernel_rfl) (by kernel_rfl) (fun _ _ _ h => h) hS (Or.inl ⟨rfl, fun w1 hw1 => by have hw1 : Fr Y.drew w1 (fun _ => False) := hw1; obtain ⟨x0, x1, x2, x3, x4⟩ := (HBY.out.fr hw1 (fun h => h)).cells; dsimp only at x0 x1 x2 x3 x4; obtain ⟨g', off', ha', _, e0⟩ := (HKY.out.fr hw1 (fun _ _ h => h)) j y HY.out; obtain ⟨g2, off2, ha2, _, e2⟩ := (HKY.out.fr hw1 (fun _ _ h => h)) m z HZ.out; dsimp only at ha' ha2; cases ha'; cases ha2; go_simp⟩) ?_
                    simp only [Act.put, List.setIfInBounds_toArray, List.set_cons_zero, List.set_cons_succ]
                    refine wpAnyK_takeTo 4 (some 89) (.int .i64 (m : Int)) [5, 6, 12, 13, 14] rfl rfl (by kernel_rfl) (by kernel_rfl) (by kernel_rfl) (by kernel_rfl) (fun _ _ _ h => h) hS (Or.inl ⟨rfl, fun w1 hw1 => by have hw1 : Fr Y.drew w1 (fun _ => False) := hw1; obtain ⟨x0, x1, x2, x3, x4⟩ := (HBY.out.fr hw1 (fun h => h)).cells; dsimp only at x0 x1 x2 x3 x4; obtain ⟨g', off', ha', _, e0⟩ := (HKY.out.fr hw1 (fun _ _ h => h)) j y HY.out; obtain ⟨g2, off2, ha2, _, e2⟩ := (HKY.out.fr hw1 (fun _ _ h => h)) m z HZ.out; dsimp only at ha' ha2; cases ha'; cases ha2; go_simp⟩) ?_
                    simp only [Act.put, List.setIfInBounds_toArray, List.set_cons_zero, List.set_cons_succ]
                    refine wpAnyK_takeTo 5 (some 90) (.pointer (some ⟨g, off + m, none⟩)) [6, 12, 13, 14] rfl rfl (by kernel_rfl) (by kernel_rfl) (by kernel_rfl) (by kernel_rfl) (fun _ _ _ h => h) hS (Or.inl ⟨rfl, fun w1 hw1 => by have hw1 : Fr Y.drew w1 (fun _ => False) := hw1; obtain ⟨x0, x1, x2, x3, x4⟩ := (HBY.out.fr hw1 (fun h => h)).cells; dsimp only at x0 x1 x2 x3 x4; obtain ⟨g', off', ha', _, e0⟩ := (HKY.out.fr hw1 (fun _ _ h => h)) j y HY.out; obtain ⟨g2, off2, ha2, _, e2⟩ := (HKY.out.fr hw1 (fun _ _ h => h)) m z HZ.out; dsimp only at ha' ha2; cases ha'; cases ha2; go_simp⟩) ?_
                    simp only [Act.put, List.setIfInBounds_toArray, List.set_cons_zero, List.set_cons_succ]
                    refine wpAnyK_takeTo 6 (some 91) (.string z) [12, 13, 14] rfl rfl (by kernel_rfl) (by kernel_rfl) (by kernel_rfl) (by kernel_rfl) (fun _ _ _ h => h) hS (Or.inl ⟨rfl, fun w1 hw1 => by have hw1 : Fr Y.drew w1 (fun _ => False) := hw1; obtain ⟨x0, x1, x2, x3, x4⟩ := (HBY.out.fr hw1 (fun h => h)).cells; dsimp only at x0 x1 x2 x3 x4; obtain ⟨g', off', ha', _, e0⟩ := (HKY.out.fr hw1 (fun _ _ h => h)) j y HY.out; obtain ⟨g2, off2, ha2, _, e2⟩ := (HKY.out.fr hw1 (fun _ _ h => h)) m z HZ.out; dsimp only at ha' ha2; cases ha'; cases ha2; go_simp⟩) ?_
                    simp only [Act.put, List.setIfInBounds_toArray, List.set_cons_zero, List.set_cons_succ]
                    refine wpAnyK_takeTo 7 (some 92) (.pointer (some ⟨w.heap.size, 3, none⟩)) [8, 10, 11, 12, 13, 14] rfl rfl (by kernel_rfl) (by kernel_rfl) (by kernel_rfl) (by kernel_rfl) (fun _ _ _ h => h) hS (Or.inl ⟨rfl, fun w1 hw1 => by have hw1 : Fr Y.drew w1 (fun _ => False) := hw1; obtain ⟨x0, x1, x2, x3, x4⟩ := (HBY.out.fr hw1 (fun h => h)).cells; dsimp only at x0 x1 x2 x3 x4; obtain ⟨g', off', ha', _, e0⟩ := (HKY.out.fr hw1 (fun _ _ h => h)) j y HY.out; obtain ⟨g2, off2, ha2, _, e2⟩ := (HKY.out.fr hw1 (fun _ _ h => h)) m z HZ.out; dsimp only at ha' ha2; cases ha'; cases ha2; go_simp⟩) ?_
                    simp only [Act.put, List.setIfInBounds_toArray, List.set_cons_zero, List.set_cons_succ]
                    refine wpAnyK_takeTo 8 (some 93) (.slice (some ⟨g, off, none⟩) kn kc) [10, 11, 12, 13, 14] rfl rfl (by kernel_rfl) (by kernel_rfl) (by kernel_rfl) (by kernel_rfl) (fun _ _ _ h => h) hS (Or.inl ⟨rfl, fun w1 hw1 => by have hw1 : Fr Y.drew w1 (fun _ => False) := hw1; obtain ⟨x0, x1, x2, x3, x4⟩ := (HBY.out.fr hw1 (fun h => h)).cells; dsimp only at x0 x1 x2 x3 x4; obtain ⟨g', off', ha', _, e0⟩ := (HKY.out.fr hw1 (fun _ _ h => h)) j y HY.out; obtain ⟨g2, off2, ha2, _, e2⟩ := (HKY.out.fr hw1 (fun _ _ h => h)) m z HZ.out; dsimp only at ha' ha2; cases ha'; cases ha2; go_simp⟩) ?_
                    simp only [Act.put, List.setIfInBounds_toArray, List.set_cons_zero, List.set_cons_succ]
                    refine wpAnyK_takeTo 9 (some 94) (.int .i64 (j : Int)) [10, 11, 12, 13, 14] rfl rfl (by kernel_rfl) (by kernel_rfl) (by kernel_rfl) (by kernel_rfl) (fun _ _ _ h => h) hS (Or.inl ⟨rfl, fun w1 hw1 => by have hw1 : Fr Y.drew w1 (fun _ => False) := hw1; obtain ⟨x0, x1, x2, x3, x4⟩ := (HBY.out.fr hw1 (fun h => h)).cells; dsimp only at x0 x1 x2 x3 x4; obtain ⟨g', off', ha', _, e0⟩ := (HKY.out.fr hw1 (fun _ _ h => h)) j y HY.out; obtain ⟨g2, off2, ha2, _, e2⟩ := (HKY.out.fr hw1 (fun _ _ h => h)) m z HZ.out; dsimp only at ha' ha2; cases ha'; cases ha2; go_simp⟩) ?_
                    simp only [Act.put, List.setIfInBounds_toArray, List.set_cons_zero, List.set_cons_succ]
                    refine wpAnyK_takeTo 10 (some 95) (.pointer (some ⟨g, off + j, none⟩)) [11, 12, 13, 14] rfl rfl (by kernel_rfl) (by kernel_rfl) (by kernel_rfl) (by kernel_rfl) (fun _ _ _ h => h) hS (Or.inl ⟨rfl, fun w1 hw1 => by have hw1 : Fr Y.drew w1 (fun _ => False) := hw1; obtain ⟨x0, x1, x2, x3, x4⟩ := (HBY.out.fr hw1 (fun h => h)).cells; dsimp only at x0 x1 x2 x3 x4; obtain ⟨g', off', ha', _, e0⟩ := (HKY.out.fr hw1 (fun _ _ h => h)) j y HY.out; obtain ⟨g2, off2, ha2, _, e2⟩ := (HKY.out.fr hw1 (fun _ _ h => h)) m z HZ.out; dsimp only at ha' ha2; cases ha'; cases ha2; go_simp⟩) ?_
                    simp only [Act.put, List.setIfInBounds_toArray, List.set_cons_zero, List.set_cons_succ]
                    refine wpAnyK_takeTo 11 (some 96) (.string y) [12, 13, 14] rfl rfl (by kernel_rfl) (by kernel_rfl) (by kernel_rfl) (by kernel_rfl) (fun _ _ _ h => h) hS (Or.inl ⟨rfl, fun w1 hw1 => by have hw1 : Fr Y.drew w1 (fun _ => False) := hw1; obtain ⟨x0, x1, x2, x3, x4⟩ := (HBY.out.fr hw1 (fun h => h)).cells; dsimp only at x0 x1 x2 x3 x4; obtain ⟨g', off', ha', _, e0⟩ := (HKY.out.fr hw1 (fun _ _ h => h)) j y HY.out; obtain ⟨g2, off2, ha2, _, e2⟩ := (HKY.out.fr hw1 (fun _ _ h => h)) m z HZ.out; dsimp only at ha' ha2; cases ha'; cases ha2; go_simp⟩) ?_
                    simp only [Act.put, List.setIfInBounds_toArray, List.set_cons_zero, List.set_cons_succ]
                    refine wpAnyK_takeTo 12 (some 97) (.bool false) [13, 14] rfl rfl (by kernel_rfl) (by kernel_rfl) (by kernel_rfl) (by kernel_rfl) (fun _ _ _ h => h) hS (Or.inl ⟨rfl, fun w1 hw1 => by have hw1 : Fr Y.drew w1 (fun _ => False) := hw1; obtain ⟨x0, x1, x2, x3, x4⟩ := (HBY.out.fr hw1 (fun h => h)).cells; dsimp only at x0 x1 x2 x3 x4; obtain ⟨g', off', ha', _, e0⟩ := (HKY.out.fr hw1 (fun _ _ h => h)) j y HY.out; obtain ⟨g2, off2, ha2, _, e2⟩ := (HKY.out.fr hw1 (fun _ _ h => h)) m z HZ.out; dsimp only at ha' ha2; cases ha'; cases ha2; go_simp⟩) ?_
                    simp only [Act.put, List.setIfInBounds_toArray, List.set_cons_zero, List.set_cons_succ]
                    refine wpAnyK_takeTo 13 (some 98) (.bool false) [14] rfl rfl (by kernel_rfl) (by kernel_rfl) (by kernel_rfl) (by kernel_rfl) (fun _ _ _ h => h) hS (Or.inl ⟨rfl, fun w1 hw1 => by have hw1 : Fr Y.drew w1 (fun _ => False) := hw1; obtain ⟨x0, x1, x2, x3, x4⟩ := (HBY.out.fr hw1 (fun h => h)).cells; dsimp only at x0 x1 x2 x3 x4; obtain ⟨g', off', ha', _, e0⟩ := (HKY.out.fr hw1 (fun _ _ h => h)) j y HY.out; obtain ⟨g2, off2, ha2, _, e2⟩ := (HKY.out.fr hw1 (fun _ _ h => h)) m z HZ.out; dsimp only at ha' ha2; cases ha'; cases ha2; go_simp⟩) ?_
                    simp only [Act.put, List.setIfInBounds_toArray, List.set_cons_zero, List.set_cons_succ]
                    refine wpAnyK_takeTo 14 (some 5) (.bool false) [] rfl rfl (by kernel_rfl) (by kernel_rfl) (by kernel_rfl) (by kernel_rfl) (fun _ _ _ h => h) hS (Or.inl ⟨rfl, fun w1 hw1 => by have hw1 : Fr Y.drew w1 (fun _ => False) := hw1; obtain ⟨x0, x1, x2, x3, x4⟩ := (HBY.out.fr hw1 (fun h => h)).cells; dsimp only at x0 x1 x2 x3 x4; obtain ⟨g', off', ha', _, e0⟩ := (HKY.out.fr hw1 (fun _ _ h => h)) j y HY.out; obtain ⟨g2, off2, ha2, _, e2⟩ := (HKY.out.fr hw1 (fun _ _ h => h)) m z HZ.out; dsimp only at ha' ha2; cases ha'; cases ha2; go_simp⟩) ?_
                    simp only [Act.put, List.setIfInBounds_toArray, List.set_cons_zero, List.set_cons_succ]
                    refine wpAnyK_done (by kernel_rfl) ?_ _
                    clear hS HBY HKY
                    go_wp2
                    go_roundw
                    case rel => exact ⟨m + 1, by omega, by rw [HIN.out, ← Bool.or_assoc, HTV.out]; simp [HE.out], by go_num, HFD.out⟩
                    case measure => simp [intOf]; omega
                · refine wp_region_K (fun _ => true) (fun U : World => Fr Y.drew U (fun _ => False)) (by kernel_rfl) ?_
                  have hS : (fun U : World => Fr Y.drew U (fun _ => False)) Y.drew := Fr.refl _ _
                  refine wpAnyK_takeTo 0 (some 85) (.bool true) [1, 2, 3, 4, 5, 6, 7, 8, 9, 10, 11, 12, 13, 14] rfl rfl (by kernel_rfl) (by kernel_rfl) (by kernel_rfl) (by kernel_rfl) (fun _ _ _ h => h) hS (Or.inl ⟨rfl, fun w1 hw1 => by go_simp⟩) ?_
                  simp only [Act.put, List.setIfInBounds_toArray, List.set_cons_zero, List.set_cons_succ]
                  refine wpAnyK_takeTo 1 (some 86) (.bool true) [2, 3, 4, 5, 6, 7, 8, 9, 10, 11, 12, 13, 14] rfl rfl (by kernel_rfl) (by kernel_rfl) (by kernel_rfl) (by kernel_rfl) (fun _ _ _ h => h) hS (Or.inl ⟨rfl, fun w1 hw1 => by go_simp⟩) ?_
                  simp only [Act.put, List.setIfInBounds_toArray, List.set_cons_zero, List.set_cons_succ]
                  refine wpAnyK_takeTo 2 (some 87) (undef) [3, 5, 6, 12, 13, 14] rfl rfl (by kernel_rfl) (by kernel_rfl) (by kernel_rfl) (by kernel_rfl) (fun _ _ _ h => h) hS (Or.inr ⟨rfl, rfl⟩) ?_
                  simp only [Act.put, List.setIfInBounds_toArray, List.set_cons_zero, List.set_cons_succ]
                  refine wpAnyK_takeTo 3 (some 88) (undef) [5, 6, 12, 13, 14] rfl rfl (by kernel_rfl) (by kernel_rfl) (by kernel_rfl) (by kernel_rfl) (fun _ _ _ h => h) hS (Or.inr ⟨rfl, rfl⟩) ?_
                  simp only [Act.put, List.setIfInBounds_toArray, List.set_cons_zero, List.set_cons_succ]
                  refine wpAnyK_takeTo 4 (some 89) (undef) [5, 6, 12, 13, 14] rfl rfl (by kernel_rfl) (by kernel_rfl) (by kernel_rfl) (by kernel_rfl) (fun _ _ _ h => h) hS (Or.inr ⟨rfl, rfl⟩) ?_
                  simp only [Act.put, List.setIfInBounds_toArray, List.set_cons_zero, List.set_cons_succ]
                  refine wpAnyK_takeTo 5 (some 90) (undef) [6, 12, 13, 14] rfl rfl (by kernel_rfl) (by kernel_rfl) (by kernel_rfl) (by kernel_rfl) (fun _ _ _ h => h) hS (Or.inr ⟨rfl, rfl⟩) ?_
                  simp only [Act.put, List.setIfInBounds_toArray, List.set_cons_zero, List.set_cons_succ]
                  refine wpAnyK_takeTo 6 (some 91) (undef) [12, 13, 14] rfl rfl (by kernel_rfl) (by kernel_rfl) (by kernel_rfl) (by kernel_rfl) (fun _ _ _ h => h) hS (Or.inr ⟨rfl, rfl⟩) ?_
                  simp only [Act.put, List.setIfInBounds_toArray, List.set_cons_zero, List.set_cons_succ]
                  refine wpAnyK_takeTo 7 (some 92) (undef) [8, 10, 11, 12, 13, 14] rfl rfl (by kernel_rfl) (by kernel_rfl) (by kernel_rfl) (by kernel_rfl) (fun _ _ _ h => h) hS (Or.inr ⟨rfl, rfl⟩) ?_
                  simp only [Act.put, List.setIfInBounds_toArray, List.set_cons_zero, List.set_cons_succ]
                  refine wpAnyK_takeTo 8 (some 93) (undef) [10, 11, 12, 13, 14] rfl rfl (by kernel_rfl) (by kernel_rfl) (by kernel_rfl) (by kernel_rfl) (fun _ _ _ h => h) hS (Or.inr ⟨rfl, rfl⟩) ?_
                  simp only [Act.put, List.setIfInBounds_toArray, List.set_cons_zero, List.set_cons_succ]
                  refine wpAnyK_takeTo 9 (some 94) (undef) [10, 11, 12, 13, 14] rfl rfl (by kernel_rfl) (by kernel_rfl) (by kernel_rfl) (by kernel_rfl) (fun _ _ _ h => h) hS (Or.inr ⟨rfl, rfl⟩) ?_
                  simp only [Act.put, List.setIfInBounds_toArray, List.set_cons_zero, List.set_cons_succ]
                  refine wpAnyK_takeTo 10 (some 95) (undef) [11, 12, 13, 14] rfl rfl (by kernel_rfl) (by kernel_rfl) (by kernel_rfl) (by kernel_rfl) (fun _ _ _ h => h) hS (Or.inr ⟨rfl, rfl⟩) ?_
                  simp only [Act.put, List.setIfInBounds_toArray, List.set_cons_zero, List.set_cons_succ]
                  refine wpAnyK_takeTo 11 (some 96) (undef) [12, 13, 14] rfl rfl (by kernel_rfl) (by kernel_rfl) (by kernel_rfl) (by kernel_rfl) (fun _ _ _ h => h) hS (Or.inr ⟨rfl, rfl⟩) ?_
                  simp only [Act.put, List.setIfInBounds_toArray, List.set_cons_zero, List.set_cons_succ]
                  refine wpAnyK_takeTo 12 (some 97) (undef) [13, 14] rfl rfl (by kernel_rfl) (by kernel_rfl) (by kernel_rfl) (by kernel_rfl) (fun _ _ _ h => h) hS (Or.inr ⟨rfl, rfl⟩) ?_
                  simp only [Act.put, List.setIfInBounds_toArray, List.set_cons_zero, List.set_cons_succ]
                  refine wpAnyK_takeTo 13 (some 98) (.bool true) [14] rfl rfl (by kernel_rfl) (by kernel_rfl) (by kernel_rfl) (by kernel_rfl) (fun _ _ _ h => h) hS (Or.inl ⟨rfl, fun w1 hw1 => by go_simp⟩) ?_
                  simp only [Act.put, List.setIfInBounds_toArray, List.set_cons_zero, List.set_cons_succ]
                  refine wpAnyK_takeTo 14 (some 5) (.bool true) [] rfl rfl (by kernel_rfl) (by kernel_rfl) (by kernel_rfl) (by kernel_rfl) (fun _ _ _ h => h) hS (Or.inl ⟨rfl, fun w1 hw1 => by go_simp⟩) ?_
                  simp only [Act.put, List.setIfInBounds_toArray, List.set_cons_zero, List.set_cons_succ]
                  refine wpAnyK_done (by kernel_rfl) ?_ _
                  clear hS HBY HKY
                  go_wp2
                  go_roundw
                  case rel => exact ⟨m + 1, by omega, by rw [HIN.out, ← Bool.or_assoc, HTV.out, Bool.true_or], by go_num, HFD.out⟩
                  case measure => simp [intOf]; omega
              · obtain rfl : j = m := by omega
                have hcm : ¬ ((j : Int) < (j : Int)) := by omega
                obtain ⟨te, hte⟩ : ∃ te, te = (tw || inB y (K.take j)) := ⟨_, rfl⟩
                rw [← hte]
                have HTE := hide hte
                clear hte
                go_wp2
                go_roundw
                case rel => exact ⟨j + 1, by omega, by rw [HTE.out, HTW.out, dupF_step HY.out, Bool.or_assoc], by rw [misB_step HY.out, HMD.out, HD.out, Bool.false_or], by go_num, HFY.out⟩
                case measure => simp [intOf]; omega
          · have HBV := hide ((HB.out.fr HFW.out (fun h => h)).fr (Fr.drew W (fun _ => False)) (fun h => h))
            have HCV := hide ((HT.out.cols.fr HFW.out (fun _ _ h => h)).fr (Fr.drew W (fun _ => False)) (fun _ _ h => h))
            have HKV := hide ((HT.out.keys.fr HFW.out (fun _ _ h => h)).fr (Fr.drew W (fun _ => False)) (fun _ _ h => h))
            refine wp_region_K (fun _ => true) (fun U : World => Fr W.drew U (fun _ => False)) (by kernel_rfl) ?_
            have hS : (fun U : World => Fr W.drew U (fun _ => False)) W.drew := Fr.refl _ _
            refine wpAnyK_takeTo 0 (some 69) (.bool true) [1, 2, 3, 4, 5, 6, 7, 8, 9, 10, 11] rfl rfl (by kernel_rfl) (by kernel_rfl) (by kernel_rfl) (by kernel_rfl) (fun _ _ _ h => h) hS (Or.inl ⟨rfl, fun w1 hw1 => by go_simp⟩) ?_
            simp only [Act.put, List.setIfInBounds_toArray, List.set_cons_zero, List.set_cons_succ]
            refine wpAnyK_takeTo 1 (some 70) (.bool true) [2, 3, 4, 5, 6, 7, 8, 9, 10, 11] rfl rfl (by kernel_rfl) (by kernel_rfl) (by kernel_rfl) (by kernel_rfl) (fun _ _ _ h => h) hS (Or.inl ⟨rfl, fun w1 hw1 => by go_simp⟩) ?_
            simp only [Act.put, List.setIfInBounds_toArray, List.set_cons_zero, List.set_cons_succ]
            refine wpAnyK_takeTo 2 (some 71) (undef) [8, 9, 10, 11] rfl rfl (by kernel_rfl) (by kernel_rfl) (by kernel_rfl) (by kernel_rfl) (fun _ _ _ h => h) hS (Or.inr ⟨rfl, rfl⟩) ?_
            simp only [Act.put, List.setIfInBounds_toArray, List.set_cons_zero, List.set_cons_succ]
            refine wpAnyK_takeTo 3 (some 72) (undef) [4, 6, 7, 8, 9, 10, 11] rfl rfl (by kernel_rfl) (by kernel_rfl) (by kernel_rfl) (by kernel_rfl) (fun _ _ _ h => h) hS (Or.inr ⟨rfl, rfl⟩) ?_
            simp only [Act.put, List.setIfInBounds_toArray, List.set_cons_zero, List.set_cons_succ]
            refine wpAnyK_takeTo 4 (some 73) (undef) [6, 7, 8, 9, 10, 11] rfl rfl (by kernel_rfl) (by kernel_rfl) (by kernel_rfl) (by kernel_rfl) (fun _ _ _ h => h) hS (Or.inr ⟨rfl, rfl⟩) ?_
            simp only [Act.put, List.setIfInBounds_toArray, List.set_cons_zero, List.set_cons_succ]
            refine wpAnyK_takeTo 5 (some 74) (undef) [6, 7, 8, 9, 10, 11] rfl rfl (by kernel_rfl) (by kernel_rfl) (by kernel_rfl) (by kernel_rfl) (fun _ _ _ h => h) hS (Or.inr ⟨rfl, rfl⟩) ?_
            simp only [Act.put, List.setIfInBounds_toArray, List.set_cons_zero, List.set_cons_succ]
            refine wpAnyK_takeTo 6 (some 75) (undef) [7, 8, 9, 10, 11] rfl rfl (by kernel_rfl) (by kernel_rfl) (by kernel_rfl) (by kernel_rfl) (fun _ _ _ h => h) hS (Or.inr ⟨rfl, rfl⟩) ?_
            simp only [Act.put, List.setIfInBounds_toArray, List.set_cons_zero, List.set_cons_succ]
            refine wpAnyK_takeTo 7 (some 76) (undef) [8, 9, 10, 11] rfl rfl (by kernel_rfl) (by kernel_rfl) (by kernel_rfl) (by kernel_rfl) (fun _ _ _ h => h) hS (Or.inr ⟨rfl, rfl⟩) ?_
            simp only [Act.put, List.setIfInBounds_toArray, List.set_cons_zero, List.set_cons_succ]
            refine wpAnyK_takeTo 8 (some 77) (undef) [9, 10, 11] rfl rfl (by kernel_rfl) (by kernel_rfl) (by kernel_rfl) (by kernel_rfl) (fun _ _ _ h => h) hS (Or.inr ⟨rfl, rfl⟩) ?_
            simp only [Act.put, List.setIfInBounds_toArray, List.set_cons_zero, List.set_cons_succ]
            refine wpAnyK_takeTo 9 (some 78) (undef) [10, 11] rfl rfl (by kernel_rfl) (by kernel_rfl) (by kernel_rfl) (by kernel_rfl) (fun _ _ _ h => h) hS (Or.inr ⟨rfl, rfl⟩) ?_
            simp only [Act.put, List.setIfInBounds_toArray, List.set_cons_zero, List.set_cons_succ]
            refine wpAnyK_takeTo 10 (some 79) (.bool true) [11] rfl rfl (by kernel_rfl) (by kernel_rfl) (by kernel_rfl) (by kernel_rfl) (fun _ _ _ h => h) hS (Or.inl ⟨rfl, fun w1 hw1 => by go_simp⟩) ?_
            simp only [Act.put, List.setIfInBounds_toArray, List.set_cons_zero, List.set_cons_succ]
            refine wpAnyK_takeTo 11 (some 7) (.bool true) [] rfl rfl (by kernel_rfl) (by kernel_rfl) (by kernel_rfl) (by kernel_rfl) (fun _ _ _ h => h) hS (Or.inl ⟨rfl, fun w1 hw1 => by go_simp⟩) ?_
            simp only [Act.put, List.setIfInBounds_toArray, List.set_cons_zero, List.set_cons_succ]
            refine wpAnyK_done (by kernel_rfl) ?_ _
            have HFZ := hide (HFW.out.two (Fr.drew W (fun _ => False)))
            clear hS HBV HCV HKV
            go_wp2_with fail
            obtain ⟨tw, htw⟩ : ∃ tw, tw = (dupF (C.map Cn.name) cn || dupF K j) := ⟨_, rfl⟩
            rw [← htw]
            have HTW := hide htw
            clear htw
            go_loopw [5, 9] (fun tv ix wr => ∃ m : Nat, m ≤ j ∧ tv = .bool (tw || inB y (K.take m)) ∧ ix = .int .i64 (m : Int) ∧ Fr w1 wr (fun _ => False)) (fun _ ix _ => j - (intOf ix).toNat)
            case atStart => exact ⟨0, Nat.zero_le _, by rw [List.take_zero]; simp [inB], rfl, HFZ.out⟩
            case round =>
              rename World => Y
              obtain ⟨m, hm, rfl, rfl, hf⟩ := hrel
              have HFY := hide hf
              clear hf
              rcases Nat.lt_or_ge m j with hlt2 | hge2
              · obtain ⟨z, hz⟩ : ∃ z, K[m]? = some z := ⟨_, List.getElem?_eq_getElem (by rw [HKN.out]; omega)⟩
                have hmk : m < kn := by omega
                have HZ := hide hz
                have HIN : Hid (inB y (K.take (m + 1)) = (inB y (K.take m) || decide (z = y))) := hide (by unfold inB; rw [List.take_add_one, hz, List.any_append]; simp)
                clear hz
                obtain ⟨tv, htv⟩ : ∃ tv, tv = (tw || inB y (K.take m)) := ⟨_, rfl⟩
                rw [← htv]
                have HTV := hide htv.symm
                clear htv
                go_wp2_with fail
                have HBY := hide ((HB.out.fr HFY.out (fun h => h)).fr (Fr.drew Y (fun _ => False)) (fun h => h))
                have HKY := hide ((HT.out.keys.fr HFY.out (fun _ _ h => h)).fr (Fr.drew Y (fun _ => False)) (fun _ _ h => h))
                have HFD := hide (HFY.out.two (Fr.drew Y (fun _ => False)))
                cases tv
                · by_cases he : z = y
                  · have heb : (z.toList == y.toList) = true := by simp [he]
                    have hel : z.toList = y.toList := by rw [he]
                    have HE := hide he
                    clear he
                    refine wp_region_K (fun _ => true) (fun U : World => Fr Y.drew U (fun _ => False)) (by kernel_rfl) ?_
                    have hS : (fun U : World => Fr Y.drew U (fun _ => False)) Y.drew := Fr.refl _ _
                    refine wpAnyK_takeTo 0 (some 85) (.bool false) [1, 2, 3, 4, 5, 6, 7, 8, 9, 10, 11, 12, 13, 14] rfl rfl (by kernel_rfl) (by kernel_rfl) (by kernel_rfl) (by kernel_rfl) (fun _ _ _ h => h) hS (Or.inl ⟨rfl, fun w1 hw1 => by have hw1 : Fr Y.drew w1 (fun _ => False) := hw1; obtain ⟨x0, x1, x2, x3, x4⟩ := (HBY.out.fr hw1 (fun h => h)).cells; dsimp only at x0 x1 x2 x3 x4; obtain ⟨g', off', ha', _, e0⟩ := (HKY.out.fr hw1 (fun _ _ h => h)) j y HY.out; obtain ⟨g2, off2, ha2, _, e2⟩ := (HKY.out.fr hw1 (fun _ _ h => h)) m z HZ.out; dsimp only at ha' ha2; cases ha'; cases ha2; go_simp⟩) ?_
                    simp only [Act.put, List.setIfInBounds_toArray, List.set_cons_zero, List.set_cons_succ]
                    refine wpAnyK_takeTo 1 (some 86) (.bool false) [2, 3, 4, 5, 6, 7, 8, 9, 10, 11, 12, 13, 14] rfl rfl (by kernel_rfl) (by kernel_rfl) (by kernel_rfl) (by kernel_rfl) (fun _ _ _ h => h) hS (Or.inl ⟨rfl, fun w1 hw1 => by have hw1 : Fr Y.drew w1 (fun _ => False) := hw1; obtain ⟨x0, x1, x2, x3, x4⟩ := (HBY.out.fr hw1 (fun h => h)).cells; dsimp only at x0 x1 x2 x3 x4; obtain ⟨g', off', ha', _, e0⟩ := (HKY.out.fr hw1 (fun _ _ h => h)) j y HY.out; obtain ⟨g2, off2, ha2, _, e2⟩ := (HKY.out.fr hw1 (fun _ _ h => h)) m z HZ.out; dsimp only at ha' ha2; cases ha'; cases ha2; go_simp⟩) ?_
                    simp only [Act.put, List.setIfInBounds_toArray, List.set_cons_zero, List.set_cons_succ]
                    refine wpAnyK_takeTo 2 (some 87) (.pointer (some ⟨w.heap.size, 3, none⟩)) [3, 5, 6, 12, 13, 14] rfl rfl (by kernel_rfl) (by kernel_rfl) (by kernel_rfl) (by kernel_rfl) (fun _ _ _ h => h) hS (Or.inl ⟨rfl, fun w1 hw1 => by have hw1 : Fr Y.drew w1 (fun _ => False) := hw1; obtain ⟨x0, x1, x2, x3, x4⟩ := (HBY.out.fr hw1 (fun h => h)).cells; dsimp only at x0 x1 x2 x3 x4; obtain ⟨g', off', ha', _, e0⟩ := (HKY.out.fr hw1 (fun _ _ h => h)) j y HY.out; obtain ⟨g2, off2, ha2, _, e2⟩ := (HKY.out.fr hw1 (fun _ _ h => h)) m z HZ.out; dsimp only at ha' ha2; cases ha'; cases ha2; go_simp⟩) ?_
                    simp only [Act.put, List.setIfInBounds_toArray, List.set_cons_zero, List.set_cons_succ]
                    refine wpAnyK_takeTo 3 (some 88) (.slice (some ⟨g, off, none⟩) kn kc) [5, 6, 12, 13, 14] rfl rfl (by kernel_rfl) (by kernel_rfl) (by kernel_rfl) (by kernel_rfl) (fun _ _ _ h => h) hS (Or.inl ⟨rfl, fun w1 hw1 => by have hw1 : Fr Y.drew w1 (fun _ => False) := hw1; obtain ⟨x0, x1, x2, x3, x4⟩ := (HBY.out.fr hw1 (fun h => h)).cells; dsimp only at x0 x1 x2 x3 x4; obtain ⟨g', off', ha', _, e0⟩ := (HKY.out.fr hw1 (fun _ _ h => h)) j y HY.out; obtain ⟨g2, off2, ha2, _, e2⟩ := (HKY.out.fr hw1 (fun _ _ h => h)) m z HZ.out; dsimp only at ha' ha2; cases ha'; cases ha2; go_simp⟩) ?_
                    simp only [Act.put, List.setIfInBounds_toArray, List.set_cons_zero, List.set_cons_succ]
                    refine wpAnyK_takeTo 4 (some 89) (.int .i64 (m : Int)) [5, 6, 12, 13, 14] rfl rfl (by kernel_rfl) (by kernel_rfl) (by kernel_rfl) (by kernel_rfl) (fun _ _ _ h => h) hS (Or.inl ⟨rfl, fun w1 hw1 => by have hw1 : Fr Y.drew w1 (fun _ => False) := hw1; obtain ⟨x0, x1, x2, x3, x4⟩ := (HBY.out.fr hw1 (fun h => h)).cells; dsimp only at x0 x1 x2 x3 x4; obtain ⟨g', off', ha', _, e0⟩ := (HKY.out.fr hw1 (fun _ _ h => h)) j y HY.out; obtain ⟨g2, off2, ha2, _, e2⟩ := (HKY.out.fr hw1 (fun _ _ h => h)) m z HZ.out; dsimp only at ha' ha2; cases ha'; cases ha2; go_simp⟩) ?_
                    simp only [Act.put, List.setIfInBounds_toArray, List.set_cons_zero, List.set_cons_succ]
                    refine wpAnyK_takeTo 5 (some 90) (.pointer (some ⟨g, off + m, none⟩)) [6, 12, 13, 14] rfl rfl (by kernel_rfl) (by kernel_rfl) (by kernel_rfl) (by kernel_rfl) (fun _ _ _ h => h) hS (Or.inl ⟨rfl, fun w1 hw1 => by have hw1 : Fr Y.drew w1 (fun _ => False) := hw1; obtain ⟨x0, x1, x2, x3, x4⟩ := (HBY.out.fr hw1 (fun h => h)).cells; dsimp only at x0 x1 x2 x3 x4; obtain ⟨g', off', ha', _, e0⟩ := (HKY.out.fr hw1 (fun _ _ h => h)) j y HY.out; obtain ⟨g2, off2, ha2, _, e2⟩ := (HKY.out.fr hw1 (fun _ _ h => h)) m z HZ.out; dsimp only at ha' ha2; cases ha'; cases ha2; go_simp⟩) ?_
                    simp only [Act.put, List.setIfInBounds_toArray, List.set_cons_zero, List.set_cons_succ]
                    refine wpAnyK_takeTo 6 (some 91) (.string z) [12, 13, 14] rfl rfl (by kernel_rfl) (by kernel_rfl) (by kernel_rfl) (by kernel_rfl) (fun _ _ _ h => h) hS (Or.inl ⟨rfl, fun w1 hw1 => by have hw1 : Fr Y.drew w1 (fun _ => False) := hw1; obtain ⟨x0, x1, x2, x3, x4⟩ := (HBY.out.fr hw1 (fun h => h)).cells; dsimp only at x0 x1 x2 x3 x4; obtain ⟨g', off', ha', _, e0⟩ := (HKY.out.fr hw1 (fun _ _ h => h)) j y HY.out; obtain ⟨g2, off2, ha2, _, e2⟩ := (HKY.out.fr hw1 (fun _ _ h => h)) m z HZ.out; dsimp only at ha' ha2; cases ha'; cases ha2; go_simp⟩) ?_
                    simp only [Act.put, List.setIfInBounds_toArray, List.set_cons_zero, List.set_cons_succ]
                    refine wpAnyK_takeTo 7 (some 92) (.pointer (some ⟨w.heap.size, 3, none⟩)) [8, 10, 11, 12, 13, 14] rfl rfl (by kernel_rfl) (by kernel_rfl) (by kernel_rfl) (by kernel_rfl) (fun _ _ _ h => h) hS (Or.inl ⟨rfl, fun w1 hw1 => by have hw1 : Fr Y.drew w1 (fun _ => False) := hw1; obtain ⟨x0, x1, x2, x3, x4⟩ := (HBY.out.fr hw1 (fun h => h)).cells; dsimp only at x0 x1 x2 x3 x4; obtain ⟨g', off', ha', _, e0⟩ := (HKY.out.fr hw1 (fun _ _ h => h)) j y HY.out; obtain ⟨g2, off2, ha2, _, e2⟩ := (HKY.out.fr hw1 (fun _ _ h => h)) m z HZ.out; dsimp only at ha' ha2; cases ha'; cases ha2; go_simp⟩) ?_
                    simp only [Act.put, List.setIfInBounds_toArray, List.set_cons_zero, List.set_cons_succ]
                    refine wpAnyK_takeTo 8 (some 93) (.slice (some ⟨g, off, none⟩) kn kc) [10, 11, 12, 13, 14] rfl rfl (by kernel_rfl) (by kernel_rfl) (by kernel_rfl) (by kernel_rfl) (fun _ _ _ h => h) hS (Or.inl ⟨rfl, fun w1 hw1 => by have hw1 : Fr Y.drew w1 (fun _ => False) := hw1; obtain ⟨x0, x1, x2, x3, x4⟩ := (HBY.out.fr hw1 (fun h => h)).cells; dsimp only at x0 x1 x2 x3 x4; obtain ⟨g', off', ha', _, e0⟩ := (HKY.out.fr hw1 (fun _ _ h => h)) j y HY.out; obtain ⟨g2, off2, ha2, _, e2⟩ := (HKY.out.fr hw1 (fun _ _ h => h)) m z HZ.out; dsimp only at ha' ha2; cases ha'; cases ha2; go_simp⟩) ?_
                    simp only [Act.put, List.setIfInBounds_toArray, List.set_cons_zero, List.set_cons_succ]
                    refine wpAnyK_takeTo 9 (some 94) (.int .i64 (j : Int)) [10, 11, 12, 13, 14] rfl rfl (by kernel_rfl) (by kernel_rfl) (by kernel_rfl) (by kernel_rfl) (fun _ _ _ h => h) hS (Or.inl ⟨rfl, fun w1 hw1 => by have hw1 : Fr Y.drew w1 (fun _ => False) := hw1; obtain ⟨x0, x1, x2, x3, x4⟩ := (HBY.out.fr hw1 (fun h => h)).cells; dsimp only at x0 x1 x2 x3 x4; obtain ⟨g', off', ha', _, e0⟩ := (HKY.out.fr hw1 (fun _ _ h => h)) j y HY.out; obtain ⟨g2, off2, ha2, _, e2⟩ := (HKY.out.fr hw1 (fun _ _ h => h)) m z HZ.out; dsimp only at ha' ha2; cases ha'; cases ha2; go_simp⟩) ?_
                    simp only [Act.put, List.setIfInBounds_toArray, List.set_cons_zero, List.set_cons_succ]
                    refine wpAnyK_takeTo 10 (some 95) (.pointer (some ⟨g, off + j, none⟩)) [11, 12, 13, 14] rfl rfl (by kernel_rfl) (by kernel_rfl) (by kernel_rfl) (by kernel_rfl) (fun _ _ _ h => h) hS (Or.inl ⟨rfl, fun w1 hw1 => by have hw1 : Fr Y.drew w1 (fun _ => False) := hw1; obtain ⟨x0, x1, x2, x3, x4⟩ := (HBY.out.fr hw1 (fun h => h)).cells; dsimp only at x0 x1 x2 x3 x4; obtain ⟨g', off', ha', _, e0⟩ := (HKY.out.fr hw1 (fun _ _ h => h)) j y HY.out; obtain ⟨g2, off2, ha2, _, e2⟩ := (HKY.out.fr hw1 (fun _ _ h => h)) m z HZ.out; dsimp only at ha' ha2; cases ha'; cases ha2; go_simp⟩) ?_
                    simp only [Act.put, List.setIfInBounds_toArray, List.set_cons_zero, List.set_cons_succ]
                    refine wpAnyK_takeTo 11 (some 96) (.string y) [12, 13, 14] rfl rfl (by kernel_rfl) (by kernel_rfl) (by kernel_rfl) (by kernel_rfl) (fun _ _ _ h => h) hS (Or.inl ⟨rfl, fun w1 hw1 => by have hw1 : Fr Y.drew w1 (fun _ => False) := hw1; obtain ⟨x0, x1, x2, x3, x4⟩ := (HBY.out.fr hw1 (fun h => h)).cells; dsimp only at x0 x1 x2 x3 x4; obtain ⟨g', off', ha', _, e0⟩ := (HKY.out.fr hw1 (fun _ _ h => h)) j y HY.out; obtain ⟨g2, off2, ha2, _, e2⟩ := (HKY.out.fr hw1 (fun _ _ h => h)) m z HZ.out; dsimp only at ha' ha2; cases ha'; cases ha2; go_simp⟩) ?_
                    simp only [Act.put, List.setIfInBounds_toArray, List.set_cons_zero, List.set_cons_succ]
                    refine wpAnyK_takeTo 12 (some 97) (.bool true) [13, 14] rfl rfl (by kernel_rfl) (by kernel_rfl) (by kernel_rfl) (by kernel_rfl) (fun _ _ _ h => h) hS (Or.inl ⟨rfl, fun w1 hw1 => by have hw1 : Fr Y.drew w1 (fun _ => False) := hw1; obtain ⟨x0, x1, x2, x3, x4⟩ := (HBY.out.fr hw1 (fun h => h)).cells; dsimp only at x0 x1 x2 x3 x4; obtain ⟨g', off', ha', _, e0⟩ := (HKY.out.fr hw1 (fun _ _ h => h)) j y HY.out; obtain ⟨g2, off2, ha2, _, e2⟩ := (HKY.out.fr hw1 (fun _ _ h => h)) m z HZ.out; dsimp only at ha' ha2; cases ha'; cases ha2; go_simp⟩) ?_
                    simp only [Act.put, List.setIfInBounds_toArray, List.set_cons_zero, List.set_cons_succ]
                    refine wpAnyK_takeTo 13 (some 98) (.bool true) [14] rfl rfl (by kernel_rfl) (by kernel_rfl) (by kernel_rfl) (by kernel_rfl) (fun _ _ _ h => h) hS (Or.inl ⟨rfl, fun w1 hw1 => by have hw1 : Fr Y.drew w1 (fun _ => False) := hw1; obtain ⟨x0, x1, x2, x3, x4⟩ := (HBY.out.fr hw1 (fun h => h)).cells; dsimp only at x0 x1 x2 x3 x4; obtain ⟨g', off', ha', _, e0⟩ := (HKY.out.fr hw1 (fun _ _ h => h)) j y HY.out; obtain ⟨g2, off2, ha2, _, e2⟩ := (HKY.out.fr hw1 (fun _ _ h => h)) m z HZ.out; dsimp only at ha' ha2; cases ha'; cases ha2; go_simp⟩) ?_
                    simp only [Act.put, List.setIfInBounds_toArray, List.set_cons_zero, List.set_cons_succ]
                    refine wpAnyK_takeTo 14 (some 5) (.bool true) [] rfl rfl (by kernel_rfl) (by kernel_rfl) (by kernel_rfl) (by kernel_rfl) (fun _ _ _ h => h) hS (Or.inl ⟨rfl, fun w1 hw1 => by have hw1 : Fr Y.drew w1 (fun _ => False) := hw1; obtain ⟨x0, x1, x2, x3, x4⟩ := (HBY.out.fr hw1 (fun h => h)).cells; dsimp only at x0 x1 x2 x3 x4; obtain ⟨g', off', ha', _, e0⟩ := (HKY.out.fr hw1 (fun _ _ h => h)) j y HY.out; obtain ⟨g2, off2, ha2, _, e2⟩ := (HKY.out.fr hw1 (fun _ _ h => h)) m z HZ.out; dsimp only at ha' ha2; cases ha'; cases ha2; go_simp⟩) ?_
                    simp only [Act.put, List.setIfInBounds_toArray, List.set_cons_zero, List.set_cons_succ]
                    refine wpAnyK_done (by kernel_rfl) ?_ _
                    clear hS HBY HKY
                    go_wp2
                    go_roundw
                    case rel => exact ⟨m + 1, by omega, by rw [HIN.out, ← Bool.or_assoc, HTV.out, HE.out]; simp, by go_num, HFD.out⟩
                    case measure => simp [intOf]; omega
                  · have heb : (z.toList == y.toList) = false := (Go.Lib.bytes_beq_false_iff z y).2 he
                    have hnl : ¬ (z.toList = y.toList) := by simpa using heb
                    have HE := hide he
                    clear he
                    refine wp_region_K (fun _ => true) (fun U : World => Fr Y.drew U (fun _ => False)) (by kernel_rfl) ?_
                    have hS : (fun U : World => Fr Y.drew U (fun _ => False)) Y.drew := Fr.refl _ _
                    refine wpAnyK_takeTo 0 (some 85) (.bool false) [1, 2, 3, 4, 5, 6, 7, 8, 9, 10, 11, 12, 13, 14] rfl rfl (by kernel_rfl) (by kernel_rfl) (by kernel_rfl) (by kernel_rfl) (fun _ _ _ h => h) hS (Or.inl ⟨rfl, fun w1 hw1 => by have hw1 : Fr Y.drew w1 (fun _ => False) := hw1; obtain ⟨x0, x1, x2, x3, x4⟩ := (HBY.out.fr hw1 (fun h => h)).cells; dsimp only at x0 x1 x2 x3 x4; obtain ⟨g', off', ha', _, e0⟩ := (HKY.out.fr hw1 (fun _ _ h => h)) j y HY.out; obtain ⟨g2, off2, ha2, _, e2⟩ := (HKY.out.fr hw1 (fun _ _ h => h)) m z HZ.out; dsimp only at ha' ha2; cases ha'; cases ha2; go_simp⟩) ?_
                    simp only [Act.put, List.setIfInBounds_toArray, List.set_cons_zero, List.set_cons_succ]
                    refine wpAnyK_takeTo 1 (some 86) (.bool false) [2, 3, 4, 5, 6, 7, 8, 9, 10, 11, 12, 13, 14] rfl rfl (by kernel_rfl) (by kernel_rfl) (by kernel_rfl) (by kernel_rfl) (fun _ _ _ h => h) hS (Or.inl ⟨rfl, fun w1 hw1 => by have hw1 : Fr Y.drew w1 (fun _ => False) := hw1; obtain ⟨x0, x1, x2, x3, x4⟩ := (HBY.out.fr hw1 (fun h => h)).cells; dsimp only at x0 x1 x2 x3 x4; obtain ⟨g', off', ha', _, e0⟩ := (HKY.out.fr hw1 (fun _ _ h => h)) j y HY.out; obtain ⟨g2, off2, ha2, _, e2⟩ := (HKY.out.fr hw1 (fun _ _ h => h)) m z HZ.out; dsimp only at ha' ha2; cases ha'; cases ha2; go_simp⟩) ?_
                    simp only [Act.put, List.setIfInBounds_toArray, List.set_cons_zero, List.set_cons_succ]
                    refine wpAnyK_takeTo 2 (some 87) (.pointer (some ⟨w.heap.size, 3, none⟩)) [3, 5, 6, 12, 13, 14] rfl rfl (by kernel_rfl) (by kernel_rfl) (by kernel_rfl) (by kernel_rfl) (fun _ _ _ h => h) hS (Or.inl ⟨rfl, fun w1 hw1 => by have hw1 : Fr Y.drew w1 (fun _ => False) := hw1; obtain ⟨x0, x1, x2, x3, x4⟩ := (HBY.out.fr hw1 (fun h => h)).cells; dsimp only at x0 x1 x2 x3 x4; obtain ⟨g', off', ha', _, e0⟩ := (HKY.out.fr hw1 (fun _ _ h => h)) j y HY.out; obtain ⟨g2, off2, ha2, _, e2⟩ := (HKY.out.fr hw1 (fun _ _ h => h)) m z HZ.out; dsimp only at ha' ha2; cases ha'; cases ha2; go_simp⟩) ?_
                    simp only [Act.put, List.setIfInBounds_toArray, List.set_cons_zero, List.set_cons_succ]
                    refine wpAnyK_takeTo 3 (some 88) (.slice (some ⟨g, off, none⟩) kn kc) [5, 6, 12, 13, 14] rfl rfl (by kernel_rfl) (by kernel_rfl) (by kernel_rfl) (by kernel_rfl) (fun _ _ _ h => h) hS (Or.inl ⟨rfl, fun w1 hw1 => by have hw1 : Fr Y.drew w1 (fun _ => False) := hw1; obtain ⟨x0, x1, x2, x3, x4⟩ := (HBY.out.fr hw1 (fun h => h)).cells; dsimp only at x0 x1 x2 x3 x4; obtain ⟨g', off', ha', _, e0⟩ := (HKY.out.fr hw1 (fun _ _ h => h)) j y HY.out; obtain ⟨g2, off2, ha2, _, e2⟩ := (HKY.out.fr hw1 (fun _ _ h => h)) m z HZ.out; dsimp only at ha' ha2; cases ha'; cases ha2; go_simp⟩) ?_
                    simp only [Act.put, List.setIfInBounds_toArray, List.set_cons_zero, List.set_cons_succ]
                    refine wpAnyK_takeTo 4 (some 89) (.int .i64 (m : Int)) [5, 6, 12, 13, 14] rfl rfl (by kernel_rfl) (by kernel_rfl) (by kernel_rfl) (by kernel_rfl) (fun _ _ _ h => h) hS (Or.inl ⟨rfl, fun w1 hw1 => by have hw1 : Fr Y.drew w1 (fun _ => False) := hw1; obtain ⟨x0, x1, x2, x3, x4⟩ := (HBY.out.fr hw1 (fun h => h)).cells; dsimp only at x0 x1 x2 x3 x4; obtain ⟨g', off', ha', _, e0⟩ := (HKY.out.fr hw1 (fun _ _ h => h)) j y HY.out; obtain ⟨g2, off2, ha2, _, e2⟩ := (HKY.out.fr hw1 (fun _ _ h => h)) m z HZ.out; dsimp only at ha' ha2; cases ha'; cases ha2; go_simp⟩) ?_
                    simp only [Act.put, List.setIfInBounds_toArray, List.set_cons_zero, List.set_cons_succ]
                    refine wpAnyK_takeTo 5 (some 90) (.pointer (some ⟨g, off + m, none⟩)) [6, 12, 13, 14] rfl rfl (by kernel_rfl) (by kernel_rfl) (by kernel_rfl) (by kernel_rfl) (fun _ _ _ h => h) hS (Or.inl ⟨rfl, fun w1 hw1 => by have hw1 : Fr Y.drew w1 (fun _ => False) := hw1; obtain ⟨x0, x1, x2, x3, x4⟩ := (HBY.out.fr hw1 (fun h => h)).cells; dsimp only at x0 x1 x2 x3 x4; obtain ⟨g', off', ha', _, e0⟩ := (HKY.out.fr hw1 (fun _ _ h => h)) j y HY.out; obtain ⟨g2, off2, ha2, _, e2⟩ := (HKY.out.fr hw1 (fun _ _ h => h)) m z HZ.out; dsimp only at ha' ha2; cases ha'; cases ha2; go_simp⟩) ?_
                    simp only [Act.put, List.setIfInBounds_toArray, List.set_cons_zero, List.set_cons_succ]
                    refine wpAnyK_takeTo 6 (some 91) (.string z) [12, 13, 14] rfl rfl (by kernel_rfl) (by kernel_rfl) (by kernel_rfl) (by kernel_rfl) (fun _ _ _ h => h) hS (Or.inl ⟨rfl, fun w1 hw1 => by have hw1 : Fr Y.drew w1 (fun _ => False) := hw1; obtain ⟨x0, x1, x2, x3, x4⟩ := (HBY.out.fr hw1 (fun h => h)).cells; dsimp only at x0 x1 x2 x3 x4; obtain ⟨g', off', ha', _, e0⟩ := (HKY.out.fr hw1 (fun _ _ h => h)) j y HY.out; obtain ⟨g2, off2, ha2, _, e2⟩ := (HKY.out.fr hw1 (fun _ _ h => h)) m z HZ.out; dsimp only at ha' ha2; cases ha'; cases ha2; go_simp⟩) ?_
                    simp only [Act.put, List.setIfInBounds_toArray, List.set_cons_zero, List.set_cons_succ]
                    refine wpAnyK_takeTo 7 (some 92) (.pointer (some ⟨w.heap.size, 3, none⟩)) [8, 10, 11, 12, 13, 14] rfl rfl (by kernel_rfl) (by kernel_rfl) (by kernel_rfl) (by kernel_rfl) (fun _ _ _ h => h) hS (Or.inl ⟨rfl, fun w1 hw1 => by have hw1 : Fr Y.drew w1 (fun _ => False) := hw1; obtain ⟨x0, x1, x2, x3, x4⟩ := (HBY.out.fr hw1 (fun h => h)).cells; dsimp only at x0 x1 x2 x3 x4; obtain ⟨g', off', ha', _, e0⟩ := (HKY.out.fr hw1 (fun _ _ h => h)) j y HY.out; obtain ⟨g2, off2, ha2, _, e2⟩ := (HKY.out.fr hw1 (fun _ _ h => h)) m z HZ.out; dsimp only at ha' ha2; cases ha'; cases ha2; go_simp⟩) ?_
                    simp only [Act.put, List.setIfInBounds_toArray, List.set_cons_zero, List.set_cons_succ]
                    refine wpAnyK_takeTo 8 (some 93) (.slice (some ⟨g, off, none⟩) kn kc) [10, 11, 12, 13, 14] rfl rfl (by kernel_rfl) (by kernel_rfl) (by kernel_rfl) (by kernel_rfl) (fun _ _ _ h => h) hS (Or.inl ⟨rfl, fun w1 hw1 => by have hw1 : Fr Y.drew w1 (fun _ => False) := hw1; obtain ⟨x0, x1, x2, x3, x4⟩ := (HBY.out.fr hw1 (fun h => h)).cells; dsimp only at x0 x1 x2 x3 x4; obtain ⟨g', off', ha', _, e0⟩ := (HKY.out.fr hw1 (fun _ _ h => h)) j y HY.out; obtain ⟨g2, off2, ha2, _, e2⟩ := (HKY.out.fr hw1 (fun _ _ h => h)) m z HZ.out; dsimp only at ha' ha2; cases ha'; cases ha2; go_simp⟩) ?_
                    simp only [Act.put, List.setIfInBounds_toArray, List.set_cons_zero, List.set_cons_succ]
                    refine wpAnyK_takeTo 9 (some 94) (.int .i64 (j : Int)) [10, 11, 12, 13, 14] rfl rfl (by kernel_rfl) (by kernel_rfl) (by kernel_rfl) (by kernel_rfl) (fun _ _ _ h => h) hS (Or.inl ⟨rfl, fun w1 hw1 => by have hw1 : Fr Y.drew w1 (fun _ => False) := hw1; obtain ⟨x0, x1, x2, x3, x4⟩ := (HBY.out.fr hw1 (fun h => h)).cells; dsimp only at x0 x1 x2 x3 x4; obtain ⟨g', off', ha', _, e0⟩ := (HKY.out.fr hw1 (fun _ _ h => h)) j y HY.out; obtain ⟨g2, off2, ha2, _, e2⟩ := (HKY.out.fr hw1 (fun _ _ h => h)) m z HZ.out; dsimp only at ha' ha2; cases ha'; cases ha2; go_simp⟩) ?_
                    simp only [Act.put, List.setIfInBounds_toArray, List.set_cons_zero, List.set_cons_succ]
                    refine wpAnyK_takeTo 10 (some 95) (.pointer (some ⟨g, off + j, none⟩)) [11, 12, 13, 14] rfl rfl (by kernel_rfl) (by kernel_rfl) (by kernel_rfl) (by kernel_rfl) (fun _ _ _ h => h) hS (Or.inl ⟨rfl, fun w1 hw1 => by have hw1 : Fr Y.drew w1 (fun _ => False) := hw1; obtain ⟨x0, x1, x2, x3, x4⟩ := (HBY.out.fr hw1 (fun h => h)).cells; dsimp only at x0 x1 x2 x3 x4; obtain ⟨g', off', ha', _, e0⟩ := (HKY.out.fr hw1 (fun _ _ h => h)) j y HY.out; obtain ⟨g2, off2, ha2, _, e2⟩ := (HKY.out.fr hw1 (fun _ _ h => h)) m z HZ.out; dsimp only at ha' ha2; cases ha'; cases ha2; go_simp⟩) ?_
                    simp only [Act.put, List.setIfInBounds_toArray, List.set_cons_zero, List.set_cons_succ]
                    refine wpAnyK_takeTo 11 (some 96) (.string y) [12, 13, 14] rfl rfl (by kernel_rfl) (by kernel_rfl) (by kernel_rfl) (by kernel_rfl) (fun _ _ _ h => h) hS (Or.inl ⟨rfl, fun w1 hw1 => by have hw1 : Fr Y.drew w1 (fun _ => False) := hw1; obtain ⟨x0, x1, x2, x3, x4⟩ := (HBY.out.fr hw1 (fun h => h)).cells; dsimp only at x0 x1 x2 x3 x4; obtain ⟨g', off', ha', _, e0⟩ := (HKY.out.fr hw1 (fun _ _ h => h)) j y HY.out; obtain ⟨g2, off2, ha2, _, e2⟩ := (HKY.out.fr hw1 (fun _ _ h => h)) m z HZ.out; dsimp only at ha' ha2; cases ha'; cases ha2; go_simp⟩) ?_
                    simp only [Act.put, List.setIfInBounds_toArray, List.set_cons_zero, List.set_cons_succ]
                    refine wpAnyK_takeTo 12 (some 97) (.bool false) [13, 14] rfl rfl (by kernel_rfl) (by kernel_rfl) (by kernel_rfl) (by kernel_rfl) (fun _ _ _ h => h) hS (Or.inl ⟨rfl, fun w1 hw1 => by have hw1 : Fr Y.drew w1 (fun _ => False) := hw1; obtain ⟨x0, x1, x2, x3, x4⟩ := (HBY.out.fr hw1 (fun h => h)).cells; dsimp only at x0 x1 x2 x3 x4; obtain ⟨g', off', ha', _, e0⟩ := (HKY.out.fr hw1 (fun _ _ h => h)) j y HY.out; obtain ⟨g2, off2, ha2, _, e2⟩ := (HKY.out.fr hw1 (fun _ _ h => h)) m z HZ.out; dsimp only at ha' ha2; cases ha'; cases ha2; go_simp⟩) ?_
                    simp only [Act.put, List.setIfInBounds_toArray, List.set_cons_zero, List.set_cons_succ]
                    refine wpAnyK_takeTo 13 (some 98) (.bool false) [14] rfl rfl (by kernel_rfl) (by kernel_rfl) (by kernel_rfl) (by kernel_rfl) (fun _ _ _ h => h) hS (Or.inl ⟨rfl, fun w1 hw1 => by have hw1 : Fr Y.drew w1 (fun _ => False) := hw1; obtain ⟨x0, x1, x2, x3, x4⟩ := (HBY.out.fr hw1 (fun h => h)).cells; dsimp only at x0 x1 x2 x3 x4; obtain ⟨g', off', ha', _, e0⟩ := (HKY.out.fr hw1 (fun _ _ h => h)) j y HY.out; obtain ⟨g2, off2, ha2, _, e2⟩ := (HKY.out.fr hw1 (fun _ _ h => h)) m z HZ.out; dsimp only at ha' ha2; cases ha'; cases ha2; go_simp⟩) ?_
                    simp only [Act.put, List.setIfInBounds_toArray, List.set_cons_zero, List.set_cons_succ]
                    refine wpAnyK_takeTo 14 (some 5) (.bool false) [] rfl rfl (by kernel_rfl) (by kernel_rfl) (by kernel_rfl) (by kernel_rfl) (fun _ _ _ h => h) hS (Or.inl ⟨rfl, fun w1 hw1 => by have hw1 : Fr Y.drew w1 (fun _ => False) := hw1; obtain ⟨x0, x1, x2, x3, x4⟩ := (HBY.out.fr hw1 (fun h => h)).cells; dsimp only at x0 x1 x2 x3 x4; obtain ⟨g', off', ha', _, e0⟩ := (HKY.out.fr hw1 (fun _ _ h => h)) j y HY.out; obtain ⟨g2, off2, ha2, _, e2⟩ := (HKY.out.fr hw1 (fun _ _ h => h)) m z HZ.out; dsimp only at ha' ha2; cases ha'; cases ha2; go_simp⟩) ?_
                    simp only [Act.put, List.setIfInBounds_toArray, List.set_cons_zero, List.set_cons_succ]
                    refine wpAnyK_done (by kernel_rfl) ?_ _
                    clear hS HBY HKY
                    go_wp2
                    go_roundw
                    case rel => exact ⟨m + 1, by omega, by rw [HIN.out, ← Bool.or_assoc, HTV.out]; simp [HE.out], by go_num, HFD.out⟩
                    case measure => simp [intOf]; omega
                · refine wp_region_K (fun _ => true) (fun U : World => Fr Y.drew U (fun _ => False)) (by kernel_rfl) ?_
                  have hS : (fun U : World => Fr Y.drew U (fun _ => False)) Y.drew := Fr.refl _ _
                  refine wpAnyK_takeTo 0 (some 85) (.bool true) [1, 2, 3, 4, 5, 6, 7, 8, 9, 10, 11, 12, 13, 14] rfl rfl (by kernel_rfl) (by kernel_rfl) (by kernel_rfl) (by kernel_rfl) (fun _ _ _ h => h) hS (Or.inl ⟨rfl, fun w1 hw1 => by go_simp⟩) ?_
                  simp only [Act.put, List.setIfInBounds_toArray, List.set_cons_zero, List.set_cons_succ]
                  refine wpAnyK_takeTo 1 (some 86) (.bool true) [2, 3, 4, 5, 6, 7, 8, 9, 10, 11, 12, 13, 14] rfl rfl (by kernel_rfl) (by kernel_rfl) (by kernel_rfl) (by kernel_rfl) (fun _ _ _ h => h) hS (Or.inl ⟨rfl, fun w1 hw1 => by go_simp⟩) ?_
                  simp only [Act.put, List.setIfInBounds_toArray, List.set_cons_zero, List.set_cons_succ]
                  refine wpAnyK_takeTo 2 (some 87) (undef) [3, 5, 6, 12, 13, 14] rfl rfl (by kernel_rfl) (by kernel_rfl) (by kernel_rfl) (by kernel_rfl) (fun _ _ _ h => h) hS (Or.inr ⟨rfl, rfl⟩) ?_
                  simp only [Act.put, List.setIfInBounds_toArray, List.set_cons_zero, List.set_cons_succ]
                  refine wpAnyK_takeTo 3 (some 88) (undef) [5, 6, 12, 13, 14] rfl rfl (by kernel_rfl) (by kernel_rfl) (by kernel_rfl) (by kernel_rfl) (fun _ _ _ h => h) hS (Or.inr ⟨rfl, rfl⟩) ?_
                  simp only [Act.put, List.setIfInBounds_toArray, List.set_cons_zero, List.set_cons_succ]
                  refine wpAnyK_takeTo 4 (some 89) (undef) [5, 6, 12, 13, 14] rfl rfl (by kernel_rfl) (by kernel_rfl) (by kernel_rfl) (by kernel_rfl) (fun _ _ _ h => h) hS (Or.inr ⟨rfl, rfl⟩) ?_
                  simp only [Act.put, List.setIfInBounds_toArray, List.set_cons_zero, List.set_cons_succ]
                  refine wpAnyK_takeTo 5 (some 90) (undef) [6, 12, 13, 14] rfl rfl (by kernel_rfl) (by kernel_rfl) (by kernel_rfl) (by kernel_rfl) (fun _ _ _ h => h) hS (Or.inr ⟨rfl, rfl⟩) ?_
                  simp only [Act.put, List.setIfInBounds_toArray, List.set_cons_zero, List.set_cons_succ]
                  refine wpAnyK_takeTo 6 (some 91) (undef) [12, 13, 14] rfl rfl (by kernel_rfl) (by kernel_rfl) (by kernel_rfl) (by kernel_rfl) (fun _ _ _ h => h) hS (Or.inr ⟨rfl, rfl⟩) ?_
                  simp only [Act.put, List.setIfInBounds_toArray, List.set_cons_zero, List.set_cons_succ]
                  refine wpAnyK_takeTo 7 (some 92) (undef) [8, 10, 11, 12, 13, 14] rfl rfl (by kernel_rfl) (by kernel_rfl) (by kernel_rfl) (by kernel_rfl) (fun _ _ _ h => h) hS (Or.inr ⟨rfl, rfl⟩) ?_
                  simp only [Act.put, List.setIfInBounds_toArray, List.set_cons_zero, List.set_cons_succ]
                  refine wpAnyK_takeTo 8 (some 93) (undef) [10, 11, 12, 13, 14] rfl rfl (by kernel_rfl) (by kernel_rfl) (by kernel_rfl) (by kernel_rfl) (fun _ _ _ h => h) hS (Or.inr ⟨rfl, rfl⟩) ?_
                  simp only [Act.put, List.setIfInBounds_toArray, List.set_cons_zero, List.set_cons_succ]
                  refine wpAnyK_takeTo 9 (some 94) (undef) [10, 11, 12, 13, 14] rfl rfl (by kernel_rfl) (by kernel_rfl) (by kernel_rfl) (by kernel_rfl) (fun _ _ _ h => h) hS (Or.inr ⟨rfl, rfl⟩) ?_
                  simp only [Act.put, List.setIfInBounds_toArray, List.set_cons_zero, List.set_cons_succ]
                  refine wpAnyK_takeTo 10 (some 95) (undef) [11, 12, 13, 14] rfl rfl (by kernel_rfl) (by kernel_rfl) (by kernel_rfl) (by kernel_rfl) (fun _ _ _ h => h) hS (Or.inr ⟨rfl, rfl⟩) ?_
                  simp only [Act.put, List.setIfInBounds_toArray, List.set_cons_zero, List.set_cons_succ]
                  refine wpAnyK_takeTo 11 (some 96) (undef) [12, 13, 14] rfl rfl (by kernel_rfl) (by kernel_rfl) (by kernel_rfl) (by kernel_rfl) (fun _ _ _ h => h) hS (Or.inr ⟨rfl, rfl⟩) ?_
                  simp only [Act.put, List.setIfInBounds_toArray, List.set_cons_zero, List.set_cons_succ]
                  refine wpAnyK_takeTo 12 (some 97) (undef) [13, 14] rfl rfl (by kernel_rfl) (by kernel_rfl) (by kernel_rfl) (by kernel_rfl) (fun _ _ _ h => h) hS (Or.inr ⟨rfl, rfl⟩) ?_
                  simp only [Act.put, List.setIfInBounds_toArray, List.set_cons_zero, List.set_cons_succ]
                  refine wpAnyK_takeTo 13 (some 98) (.bool true) [14] rfl rfl (by kernel_rfl) (by kernel_rfl) (by kernel_rfl) (by kernel_rfl) (fun _ _ _ h => h) hS (Or.inl ⟨rfl, fun w1 hw1 => by go_simp⟩) ?_
                  simp only [Act.put, List.setIfInBounds_toArray, List.set_cons_zero, List.set_cons_succ]
                  refine wpAnyK_takeTo 14 (some 5) (.bool true) [] rfl rfl (by kernel_rfl) (by kernel_rfl) (by kernel_rfl) (by kernel_rfl) (fun _ _ _ h => h) hS (Or.inl ⟨rfl, fun w1 hw1 => by go_simp⟩) ?_
                  simp only [Act.put, List.setIfInBounds_toArray, List.set_cons_zero, List.set_cons_succ]
                  refine wpAnyK_done (by kernel_rfl) ?_ _
                  clear hS HBY HKY
                  go_wp2
                  go_roundw
                  case rel => exact ⟨m + 1, by omega, by rw [HIN.out, ← Bool.or_assoc, HTV.out, Bool.true_or], by go_num, HFD.out⟩
                  case measure => simp [intOf]; omega
              · obtain rfl : j = m := by omega
                have hcm : ¬ ((j : Int) < (j : Int)) := by omega
                obtain ⟨te, hte⟩ : ∃ te, te = (tw || inB y (K.take j)) := ⟨_, rfl⟩
                rw [← hte]
                have HTE := hide hte
                clear hte
                go_wp2
                go_roundw
                case rel => exact ⟨j + 1, by omega, by rw [HTE.out, HTW.out, dupF_step HY.out, Bool.or_assoc], by rw [misB_step HY.out, HMD.out, Bool.true_or], by go_num, HFY.out⟩
                case measure => simp [intOf]; omega
        · obtain rfl : kn = j := by omega
          have hck : ¬ ((kn : Int) < (kn : Int)) := by omega
          rw [HB1.out, HK1.out]
          obtain ⟨q, hq⟩ : ∃ q, q = chkP nm C K := ⟨_, rfl⟩
          have hce := chk_eq nm C K cn kn HCN.out HKN.out
          obtain ⟨bd, hbd⟩ : ∃ bd, badB nm C cn = bd := ⟨_, rfl⟩
          obtain ⟨kd, hkd⟩ : ∃ kd, kinB C cn = kd := ⟨_, rfl⟩
          obtain ⟨td, htd⟩ : ∃ td, (dupF (C.map Cn.name) cn || dupF K kn) = td := ⟨_, rfl⟩
          obtain ⟨md, hmd⟩ : ∃ md, misB C K kn = md := ⟨_, rfl⟩
          rw [hbd, hkd, htd, hmd, ← hq] at hce
          rw [hbd, hkd, htd, hmd]
          have HFF := hide (HF.out.two HFW.out)
          have HQ : Hid (chkP nm C K = q) := hide hq.symm
          clear hbd hkd htd hmd hq
          cases bd
          · by_cases c0 : cn = 0
            · rw [if_neg (by decide), if_pos (.inl c0)] at hce
              have HCE := hide hce
              have l1 : (cn : Int) < 1 := by omega
              have l1b : decide ((cn : Int) < 1) = true := by simp; omega
              clear hce c0
              go_wp2
              go_ret
              exact ⟨by rw [HQ.out, HCE.out]; rfl, HFF.out⟩
            · have l1 : ¬ ((cn : Int) < 1) := by omega
              have l1b : decide ((cn : Int) < 1) = false := by simp; omega
              by_cases c8 : 8 < cn
              · rw [if_neg (by decide), if_pos (.inr c8)] at hce
                have HCE := hide hce
                have l8 : (cn : Int) > 8 := by omega
                have l8b : decide ((cn : Int) > 8) = true := by simp; omega
                clear hce c0 c8
                go_wp2
                go_ret
                exact ⟨by rw [HQ.out, HCE.out]; rfl, HFF.out⟩
              · rw [if_neg (by decide), if_neg (by omega)] at hce
                have l8 : ¬ ((cn : Int) > 8) := by omega
                have l8b : decide ((cn : Int) > 8) = false := by simp; omega
                have HCE := hide hce
                clear hce c0 c8
                cases kd
                · cases td
                  · cases md
                    · go_wp2
                      go_ret
                      exact ⟨by rw [HQ.out, HCE.out]; rfl, HFF.out⟩
                    · go_wp2
                      go_ret
                      exact ⟨by rw [HQ.out, HCE.out]; rfl, HFF.out⟩
                  · go_wp2
                    go_ret
                    exact ⟨by rw [HQ.out, HCE.out]; rfl, HFF.out⟩
                · go_wp2
                  go_ret
                  exact ⟨by rw [HQ.out, HCE.out]; rfl, HFF.out⟩
          · have HCE := hide hce
            clear hce
            go_wp2
            go_ret
            exact ⟨by rw [HQ.out, HCE.out]; rfl, HFF.out⟩
end Go.Proofs.Ytdeopneififnnaa
