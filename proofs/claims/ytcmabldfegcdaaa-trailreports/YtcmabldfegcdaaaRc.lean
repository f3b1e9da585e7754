/- Same: the same reports. -/
import Derived.Test.YtcmabldfegcdaaaRb
namespace Go.Proofs.Ytcmabldfegcdaaa
open Go.RowKit
set_option maxRecDepth 100000
set_option linter.unusedVariables false
set_option linter.unusedSimpArgs false

set_option maxHeartbeats 8000000 in
theorem same_any {w : World} (a1 a2 a3 b1 b2 b3 : Option Addr) (c1 c2 c3 d1 d2 d3 p1 p2 p3 : Nat) (m : Int) (C : List Stp) (Z : List Int) (T : List Tch) (hCA : OwnC' w (.slice a1 p1 c1) C) (hCB : OwnC' w (.slice b1 p1 d1) C) (hZA : OwnI w (.slice a2 p2 c2) Z) (hZB : OwnI w (.slice b2 p2 d2) Z) (hTA : OwnT' w (.slice a3 p3 c3) T) (hTB : OwnT' w (.slice b3 p3 d3) T) (hp1 : C.length = p1) (hp2 : Z.length = p2) (hp3 : T.length = p3) :
    Calls Try.prog 9 #[.agg #[.slice a1 p1 c1, .slice a2 p2 c2, .slice a3 p3 c3, .int .i64 m], .agg #[.slice b1 p1 d1, .slice b2 p2 d2, .slice b3 p3 d3, .int .i64 m]] w fun e w' => e = .returned (.bool true) ∧ Fr w w' (fun _ => False) := by
  have q1 : p1 ≤ 9223372036854775807 := by have := own_max hCA; omega
  have q2 : p2 ≤ 9223372036854775807 := by have := own_max hZA; omega
  have q3 : p3 ≤ 9223372036854775807 := by have := own_max hTA; omega
  have F1 := Fr.alloc w (.cells #[.slice a1 p1 c1, .slice a2 p2 c2, .slice a3 p3 c3, .int .i64 m] 43) (fun _ => False)
  have F2 := Fr.alloc (w.alloc (.cells #[.slice a1 p1 c1, .slice a2 p2 c2, .slice a3 p3 c3, .int .i64 m] 43)) (.cells #[.slice b1 p1 d1, .slice b2 p2 d2, .slice b3 p3 d3, .int .i64 m] 43) (fun _ => False)
  have F := (F1.trans F2).mono (Y := fun _ => False) (by intro k _ h; simp at h)
  have HX := hide ((four_of (heap_alloc_new w (.cells #[.slice a1 p1 c1, .slice a2 p2 c2, .slice a3 p3 c3, .int .i64 m] 43))).fr F2 (fun h => h))
  have HY := hide (four_of (heap_alloc_new (w.alloc (.cells #[.slice a1 p1 c1, .slice a2 p2 c2, .slice a3 p3 c3, .int .i64 m] 43)) (.cells #[.slice b1 p1 d1, .slice b2 p2 d2, .slice b3 p3 d3, .int .i64 m] 43)))
  rw [show (w.alloc (.cells #[.slice a1 p1 c1, .slice a2 p2 c2, .slice a3 p3 c3, .int .i64 m] 43)).heap.size = w.heap.size + 1 by simp] at HY
  have HCA := hide (hCA.fr F (fun _ _ h => h))
  have HCB := hide (hCB.fr F (fun _ _ h => h))
  have HZA := hide (hZA.fr F (fun _ _ h => h))
  have HZB := hide (hZB.fr F (fun _ _ h => h))
  have HTA := hide (hTA.fr F (fun _ _ h => h))
  have HTB := hide (hTB.fr F (fun _ _ h => h))
  have HF := hide F
  have HP1 := hide hp1
  have HP2 := hide hp2
  have HP3 := hide hp3
  have u0 := HX.out.c0
  have u1 := HX.out.c1
  have u2 := HX.out.c2
  have u3 := HX.out.c3
  clear F1 F2 F hCA hCB hZA hZB hTA hTB hp1 hp2 hp3
  go_enter Try.func9, Try.ntmps9
  go_wp2_with fail
  clear u0 u1 u2 u3
  generalize (w.alloc (.cells #[.slice a1 p1 c1, .slice a2 p2 c2, .slice a3 p3 c3, .int .i64 m] 43)).alloc (.cells #[.slice b1 p1 d1, .slice b2 p2 d2, .slice b3 p3 d3, .int .i64 m] 43) = W at *
  obtain ⟨x, hx⟩ : ∃ x, x = w.heap.size := ⟨_, rfl⟩
  obtain ⟨y, hy⟩ : ∃ y, y = w.heap.size + 1 := ⟨_, rfl⟩
  rw [← hy] at HY ⊢
  rw [← hx] at HX ⊢
  clear hx hy
  go_loopw [5] (fun i wr => ∃ j1 : Nat, j1 ≤ p1 ∧ i = .int .i64 (j1 : Int) ∧ Fr W wr (fun _ => False)) (fun i _ => p1 - (intOf i).toNat)
  case atStart => exact ⟨0, Nat.zero_le _, rfl, Fr.refl _ _⟩
  case round =>
    obtain ⟨j1, hj1, rfl, hfr⟩ := hrel
    have HFr1 := hide hfr
    have HXr := hide (HX.out.fr hfr (fun h => h))
    have HYr := hide (HY.out.fr hfr (fun h => h))
    have v1 := HXr.out.c0
    clear hfr
    rcases Nat.lt_or_ge j1 p1 with hlt | hge1
    · obtain ⟨x1, hx⟩ : ∃ u, C[j1]? = some u := ⟨_, List.getElem?_eq_getElem (by rw [HP1.out]; exact hlt)⟩
      obtain ⟨ga, rfl, ya0, ya1⟩ := (HCA.out.fr HFr1.out (fun _ _ h => h)).cell HP1.out hx
      obtain ⟨gb, rfl, yb0, yb1⟩ := (HCB.out.fr HFr1.out (fun _ _ h => h)).cell HP1.out hx
      have hS : (fun V : World => V.cell? ⟨x, 0, none⟩ = some (.slice (some ⟨ga, 0, none⟩) p1 c1) ∧ V.cell? ⟨y, 0, none⟩ = some (.slice (some ⟨gb, 0, none⟩) p1 d1) ∧ V.cell? ⟨ga, j1 * 2, none⟩ = some (.int .i64 x1.txn) ∧ V.cell? ⟨ga, j1 * 2 + 1, none⟩ = some (.int .i64 x1.stamp) ∧ V.cell? ⟨gb, j1 * 2, none⟩ = some (.int .i64 x1.txn) ∧ V.cell? ⟨gb, j1 * 2 + 1, none⟩ = some (.int .i64 x1.stamp)) wr.drew := ⟨HXr.out.c0, HYr.out.c0, ya0, ya1, yb0, yb1⟩
      have HF7 := hide ((HFr1.out.trans (Fr.drew wr (fun _ => False))).mono (Y := fun _ => False) (by intro k _ h; simp at h))
      clear hx ya0 ya1 yb0 yb1 HXr HYr
      go_wp2_with fail
      clear v1
      refine wp_region_K (fun _ => true) (fun V : World => V.cell? ⟨x, 0, none⟩ = some (.slice (some ⟨ga, 0, none⟩) p1 c1) ∧ V.cell? ⟨y, 0, none⟩ = some (.slice (some ⟨gb, 0, none⟩) p1 d1) ∧ V.cell? ⟨ga, j1 * 2, none⟩ = some (.int .i64 x1.txn) ∧ V.cell? ⟨ga, j1 * 2 + 1, none⟩ = some (.int .i64 x1.stamp) ∧ V.cell? ⟨gb, j1 * 2, none⟩ = some (.int .i64 x1.txn) ∧ V.cell? ⟨gb, j1 * 2 + 1, none⟩ = some (.int .i64 x1.stamp)) (by kernel_rfl) ?_
      generalize wr.drew = W7 at *
      refine wpAnyK_takeTo 0 (some 47) (.pointer (some ⟨x, 0, none⟩)) [] rfl rfl (by kernel_rfl) (by kernel_rfl) (by kernel_rfl) (by kernel_rfl) (fun _ _ _ h => h) hS (Or.inl ⟨rfl, fun w1 hw1 => by go_simp⟩) ?_
      simp only [Act.put, List.setIfInBounds_toArray, List.set_cons_zero, List.set_cons_succ]
      refine wpAnyK_takeTo 1 (some 48) (.slice (some ⟨ga, 0, none⟩) p1 c1) [] rfl rfl (by kernel_rfl) (by kernel_rfl) (by kernel_rfl) (by kernel_rfl) (fun _ _ _ h => h) hS (Or.inl ⟨rfl, fun w1 hw1 => by obtain ⟨h0, h1, h2, h3, h4, h5⟩ := hw1; go_simp⟩) ?_
      simp only [Act.put, List.setIfInBounds_toArray, List.set_cons_zero, List.set_cons_succ]
      refine wpAnyK_takeTo 2 (some 49) (.int .i64 (j1 : Int)) [] rfl rfl (by kernel_rfl) (by kernel_rfl) (by kernel_rfl) (by kernel_rfl) (fun _ _ _ h => h) hS (Or.inl ⟨rfl, fun w1 hw1 => by go_simp⟩) ?_
      simp only [Act.put, List.setIfInBounds_toArray, List.set_cons_zero, List.set_cons_succ]
      refine wpAnyK_takeTo 3 (some 50) (.pointer (some ⟨ga, j1 * 2, none⟩)) [] rfl rfl (by kernel_rfl) (by kernel_rfl) (by kernel_rfl) (by kernel_rfl) (fun _ _ _ h => h) hS (Or.inl ⟨rfl, fun w1 hw1 => by go_simp; first | done | omega⟩) ?_
      simp only [Act.put, List.setIfInBounds_toArray, List.set_cons_zero, List.set_cons_succ]
      refine wpAnyK_takeTo 4 (some 51) (.agg #[.int .i64 x1.txn, .int .i64 x1.stamp]) [] rfl rfl (by kernel_rfl) (by kernel_rfl) (by kernel_rfl) (by kernel_rfl) (fun _ _ _ h => h) hS (Or.inl ⟨rfl, fun w1 hw1 => by obtain ⟨h0, h1, h2, h3, h4, h5⟩ := hw1; go_simp⟩) ?_
      simp only [Act.put, List.setIfInBounds_toArray, List.set_cons_zero, List.set_cons_succ]
      refine wpAnyK_takeTo 5 (some 52) (.pointer (some ⟨y, 0, none⟩)) [] rfl rfl (by kernel_rfl) (by kernel_rfl) (by kernel_rfl) (by kernel_rfl) (fun _ _ _ h => h) hS (Or.inl ⟨rfl, fun w1 hw1 => by go_simp⟩) ?_
      simp only [Act.put, List.setIfInBounds_toArray, List.set_cons_zero, List.set_cons_succ]
      refine wpAnyK_takeTo 6 (some 53) (.slice (some ⟨gb, 0, none⟩) p1 d1) [] rfl rfl (by kernel_rfl) (by kernel_rfl) (by kernel_rfl) (by kernel_rfl) (fun _ _ _ h => h) hS (Or.inl ⟨rfl, fun w1 hw1 => by obtain ⟨h0, h1, h2, h3, h4, h5⟩ := hw1; go_simp⟩) ?_
      simp only [Act.put, List.setIfInBounds_toArray, List.set_cons_zero, List.set_cons_succ]
      refine wpAnyK_takeTo 7 (some 54) (.int .i64 (j1 : Int)) [] rfl rfl (by kernel_rfl) (by kernel_rfl) (by kernel_rfl) (by kernel_rfl) (fun _ _ _ h => h) hS (Or.inl ⟨rfl, fun w1 hw1 => by go_simp⟩) ?_
      simp only [Act.put, List.setIfInBounds_toArray, List.set_cons_zero, List.set_cons_succ]
      refine wpAnyK_takeTo 8 (some 55) (.pointer (some ⟨gb, j1 * 2, none⟩)) [] rfl rfl (by kernel_rfl) (by kernel_rfl) (by kernel_rfl) (by kernel_rfl) (fun _ _ _ h => h) hS (Or.inl ⟨rfl, fun w1 hw1 => by go_simp; first | done | omega⟩) ?_
      simp only [Act.put, List.setIfInBounds_toArray, List.set_cons_zero, List.set_cons_succ]
      refine wpAnyK_takeTo 9 (some 56) (.agg #[.int .i64 x1.txn, .int .i64 x1.stamp]) [] rfl rfl (by kernel_rfl) (by kernel_rfl) (by kernel_rfl) (by kernel_rfl) (fun _ _ _ h => h) hS (Or.inl ⟨rfl, fun w1 hw1 => by obtain ⟨h0, h1, h2, h3, h4, h5⟩ := hw1; go_simp⟩) ?_
      simp only [Act.put, List.setIfInBounds_toArray, List.set_cons_zero, List.set_cons_succ]
      refine wpAnyK_takeTo 10 (some 57) (.bool false) [] rfl rfl (by kernel_rfl) (by kernel_rfl) (by kernel_rfl) (by kernel_rfl) (fun _ _ _ h => h) hS (Or.inl ⟨rfl, fun w1 hw1 => by go_simp⟩) ?_
      simp only [Act.put, List.setIfInBounds_toArray, List.set_cons_zero, List.set_cons_succ]
      refine wpAnyK_done (by kernel_rfl) ?_ _
      clear hS
      go_wp2
      go_roundw
      case rel => exact ⟨j1 + 1, by omega, by go_num, HF7.out⟩
      case measure => simp [intOf]; omega
    · have e1 : j1 = p1 := by omega
      subst e1
      go_wp2_with fail
      clear HXr HYr v1 hge1 hj1
      go_loopw [6] (fun i wr => ∃ j2 : Nat, j2 ≤ p2 ∧ i = .int .i64 (j2 : Int) ∧ Fr W wr (fun _ => False)) (fun i _ => p2 - (intOf i).toNat)
      case atStart => exact ⟨0, Nat.zero_le _, rfl, HFr1.out⟩
      case round =>
        obtain ⟨j2, hj2, rfl, hfr⟩ := hrel
        have HFr2 := hide hfr
        have HXr := hide (HX.out.fr hfr (fun h => h))
        have HYr := hide (HY.out.fr hfr (fun h => h))
        have v2 := HXr.out.c1
        clear hfr
        rcases Nat.lt_or_ge j2 p2 with hlt | hge2
        · obtain ⟨x2, hx⟩ : ∃ u, Z[j2]? = some u := ⟨_, List.getElem?_eq_getElem (by rw [HP2.out]; exact hlt)⟩
          obtain ⟨ga, rfl, ya0⟩ := (HZA.out.fr HFr2.out (fun _ _ h => h)).cell HP2.out hx
          obtain ⟨gb, rfl, yb0⟩ := (HZB.out.fr HFr2.out (fun _ _ h => h)).cell HP2.out hx
          have hS : (fun V : World => V.cell? ⟨x, 1, none⟩ = some (.slice (some ⟨ga, 0, none⟩) p2 c2) ∧ V.cell? ⟨y, 1, none⟩ = some (.slice (some ⟨gb, 0, none⟩) p2 d2) ∧ V.cell? ⟨ga, j2, none⟩ = some (.int .i64 x2) ∧ V.cell? ⟨gb, j2, none⟩ = some (.int .i64 x2)) wr.drew := ⟨HXr.out.c1, HYr.out.c1, ya0, yb0⟩
          have HF7 := hide ((HFr2.out.trans (Fr.drew wr (fun _ => False))).mono (Y := fun _ => False) (by intro k _ h; simp at h))
          clear hx ya0 yb0 HXr HYr
          go_wp2_with fail
          clear v2
          refine wp_region_K (fun _ => true) (fun V : World => V.cell? ⟨x, 1, none⟩ = some (.slice (some ⟨ga, 0, none⟩) p2 c2) ∧ V.cell? ⟨y, 1, none⟩ = some (.slice (some ⟨gb, 0, none⟩) p2 d2) ∧ V.cell? ⟨ga, j2, none⟩ = some (.int .i64 x2) ∧ V.cell? ⟨gb, j2, none⟩ = some (.int .i64 x2)) (by kernel_rfl) ?_
          generalize wr.drew = W7 at *
          refine wpAnyK_takeTo 0 (some 65) (.pointer (some ⟨x, 1, none⟩)) [] rfl rfl (by kernel_rfl) (by kernel_rfl) (by kernel_rfl) (by kernel_rfl) (fun _ _ _ h => h) hS (Or.inl ⟨rfl, fun w1 hw1 => by go_simp⟩) ?_
          simp only [Act.put, List.setIfInBounds_toArray, List.set_cons_zero, List.set_cons_succ]
          refine wpAnyK_takeTo 1 (some 66) (.slice (some ⟨ga, 0, none⟩) p2 c2) [] rfl rfl (by kernel_rfl) (by kernel_rfl) (by kernel_rfl) (by kernel_rfl) (fun _ _ _ h => h) hS (Or.inl ⟨rfl, fun w1 hw1 => by obtain ⟨h0, h1, h2, h3⟩ := hw1; go_simp⟩) ?_
          simp only [Act.put, List.setIfInBounds_toArray, List.set_cons_zero, List.set_cons_succ]
          refine wpAnyK_takeTo 2 (some 67) (.int .i64 (j2 : Int)) [] rfl rfl (by kernel_rfl) (by kernel_rfl) (by kernel_rfl) (by kernel_rfl) (fun _ _ _ h => h) hS (Or.inl ⟨rfl, fun w1 hw1 => by go_simp⟩) ?_
          simp only [Act.put, List.setIfInBounds_toArray, List.set_cons_zero, List.set_cons_succ]
          refine wpAnyK_takeTo 3 (some 68) (.pointer (some ⟨ga, j2, none⟩)) [] rfl rfl (by kernel_rfl) (by kernel_rfl) (by kernel_rfl) (by kernel_rfl) (fun _ _ _ h => h) hS (Or.inl ⟨rfl, fun w1 hw1 => by go_simp; first | done | omega⟩) ?_
          simp only [Act.put, List.setIfInBounds_toArray, List.set_cons_zero, List.set_cons_succ]
          refine wpAnyK_takeTo 4 (some 69) (.int .i64 x2) [] rfl rfl (by kernel_rfl) (by kernel_rfl) (by kernel_rfl) (by kernel_rfl) (fun _ _ _ h => h) hS (Or.inl ⟨rfl, fun w1 hw1 => by obtain ⟨h0, h1, h2, h3⟩ := hw1; go_simp⟩) ?_
          simp only [Act.put, List.setIfInBounds_toArray, List.set_cons_zero, List.set_cons_succ]
          refine wpAnyK_takeTo 5 (some 70) (.pointer (some ⟨y, 1, none⟩)) [] rfl rfl (by kernel_rfl) (by kernel_rfl) (by kernel_rfl) (by kernel_rfl) (fun _ _ _ h => h) hS (Or.inl ⟨rfl, fun w1 hw1 => by go_simp⟩) ?_
          simp only [Act.put, List.setIfInBounds_toArray, List.set_cons_zero, List.set_cons_succ]
          refine wpAnyK_takeTo 6 (some 71) (.slice (some ⟨gb, 0, none⟩) p2 d2) [] rfl rfl (by kernel_rfl) (by kernel_rfl) (by kernel_rfl) (by kernel_rfl) (fun _ _ _ h => h) hS (Or.inl ⟨rfl, fun w1 hw1 => by obtain ⟨h0, h1, h2, h3⟩ := hw1; go_simp⟩) ?_
          simp only [Act.put, List.setIfInBounds_toArray, List.set_cons_zero, List.set_cons_succ]
          refine wpAnyK_takeTo 7 (some 72) (.int .i64 (j2 : Int)) [] rfl rfl (by kernel_rfl) (by kernel_rfl) (by kernel_rfl) (by kernel_rfl) (fun _ _ _ h => h) hS (Or.inl ⟨rfl, fun w1 hw1 => by go_simp⟩) ?_
          simp only [Act.put, List.setIfInBounds_toArray, List.set_cons_zero, List.set_cons_succ]
          refine wpAnyK_takeTo 8 (some 73) (.pointer (some ⟨gb, j2, none⟩)) [] rfl rfl (by kernel_rfl) (by kernel_rfl) (by kernel_rfl) (by kernel_rfl) (fun _ _ _ h => h) hS (Or.inl ⟨rfl, fun w1 hw1 => by go_simp; first | done | omega⟩) ?_
          simp only [Act.put, List.setIfInBounds_toArray, List.set_cons_zero, List.set_cons_succ]
          refine wpAnyK_takeTo 9 (some 74) (.int .i64 x2) [] rfl rfl (by kernel_rfl) (by kernel_rfl) (by kernel_rfl) (by kernel_rfl) (fun _ _ _ h => h) hS (Or.inl ⟨rfl, fun w1 hw1 => by obtain ⟨h0, h1, h2, h3⟩ := hw1; go_simp⟩) ?_
          simp only [Act.put, List.setIfInBounds_toArray, List.set_cons_zero, List.set_cons_succ]
          refine wpAnyK_takeTo 10 (some 75) (.bool false) [] rfl rfl (by kernel_rfl) (by kernel_rfl) (by kernel_rfl) (by kernel_rfl) (fun _ _ _ h => h) hS (Or.inl ⟨rfl, fun w1 hw1 => by go_simp⟩) ?_
          simp only [Act.put, List.setIfInBounds_toArray, List.set_cons_zero, List.set_cons_succ]
          refine wpAnyK_done (by kernel_rfl) ?_ _
          clear hS
          go_wp2
          go_roundw
          case rel => exact ⟨j2 + 1, by omega, by go_num, HF7.out⟩
          case measure => simp [intOf]; omega
        · have e2 : j2 = p2 := by omega
          subst e2
          go_wp2_with fail
          clear HXr HYr v2 hge2 hj2
          go_loopw [7] (fun i wr => ∃ j3 : Nat, j3 ≤ p3 ∧ i = .int .i64 (j3 : Int) ∧ Fr W wr (fun _ => False)) (fun i _ => p3 - (intOf i).toNat)
          case atStart => exact ⟨0, Nat.zero_le _, rfl, HFr2.out⟩
          case round =>
            obtain ⟨j3, hj3, rfl, hfr⟩ := hrel
            have HFr3 := hide hfr
            have HXr := hide (HX.out.fr hfr (fun h => h))
            have HYr := hide (HY.out.fr hfr (fun h => h))
            have v3 := HXr.out.c2
            clear hfr
            rcases Nat.lt_or_ge j3 p3 with hlt | hge3
            · obtain ⟨x3, hx⟩ : ∃ u, T[j3]? = some u := ⟨_, List.getElem?_eq_getElem (by rw [HP3.out]; exact hlt)⟩
              obtain ⟨ga, rfl, ya0, ya1, ya2⟩ := (HTA.out.fr HFr3.out (fun _ _ h => h)).cell HP3.out hx
              obtain ⟨gb, rfl, yb0, yb1, yb2⟩ := (HTB.out.fr HFr3.out (fun _ _ h => h)).cell HP3.out hx
              have hS : (fun V : World => V.cell? ⟨x, 2, none⟩ = some (.slice (some ⟨ga, 0, none⟩) p3 c3) ∧ V.cell? ⟨y, 2, none⟩ = some (.slice (some ⟨gb, 0, none⟩) p3 d3) ∧ V.cell? ⟨ga, j3 * 3, none⟩ = some (.int .i64 x3.page) ∧ V.cell? ⟨ga, j3 * 3 + 1, none⟩ = some (.int .i64 x3.first) ∧ V.cell? ⟨ga, j3 * 3 + 2, none⟩ = some (.int .i64 x3.last) ∧ V.cell? ⟨gb, j3 * 3, none⟩ = some (.int .i64 x3.page) ∧ V.cell? ⟨gb, j3 * 3 + 1, none⟩ = some (.int .i64 x3.first) ∧ V.cell? ⟨gb, j3 * 3 + 2, none⟩ = some (.int .i64 x3.last)) wr.drew := ⟨HXr.out.c2, HYr.out.c2, ya0, ya1, ya2, yb0, yb1, yb2⟩
              have HF7 := hide ((HFr3.out.trans (Fr.drew wr (fun _ => False))).mono (Y := fun _ => False) (by intro k _ h; simp at h))
              clear hx ya0 ya1 ya2 yb0 yb1 yb2 HXr HYr
              go_wp2_with fail
              clear v3
              refine wp_region_K (fun _ => true) (fun V : World => V.cell? ⟨x, 2, none⟩ = some (.slice (some ⟨ga, 0, none⟩) p3 c3) ∧ V.cell? ⟨y, 2, none⟩ = some (.slice (some ⟨gb, 0, none⟩) p3 d3) ∧ V.cell? ⟨ga, j3 * 3, none⟩ = some (.int .i64 x3.page) ∧ V.cell? ⟨ga, j3 * 3 + 1, none⟩ = some (.int .i64 x3.first) ∧ V.cell? ⟨ga, j3 * 3 + 2, none⟩ = some (.int .i64 x3.last) ∧ V.cell? ⟨gb, j3 * 3, none⟩ = some (.int .i64 x3.page) ∧ V.cell? ⟨gb, j3 * 3 + 1, none⟩ = some (.int .i64 x3.first) ∧ V.cell? ⟨gb, j3 * 3 + 2, none⟩ = some (.int .i64 x3.last)) (by kernel_rfl) ?_
              generalize wr.drew = W7 at *
              refine wpAnyK_takeTo 0 (some 83) (.pointer (some ⟨x, 2, none⟩)) [] rfl rfl (by kernel_rfl) (by kernel_rfl) (by kernel_rfl) (by kernel_rfl) (fun _ _ _ h => h) hS (Or.inl ⟨rfl, fun w1 hw1 => by go_simp⟩) ?_
              simp only [Act.put, List.setIfInBounds_toArray, List.set_cons_zero, List.set_cons_succ]
              refine wpAnyK_takeTo 1 (some 84) (.slice (some ⟨ga, 0, none⟩) p3 c3) [] rfl rfl (by kernel_rfl) (by kernel_rfl) (by kernel_rfl) (by kernel_rfl) (fun _ _ _ h => h) hS (Or.inl ⟨rfl, fun w1 hw1 => by obtain ⟨h0, h1, h2, h3, h4, h5, h6, h7⟩ := hw1; go_simp⟩) ?_
              simp only [Act.put, List.setIfInBounds_toArray, List.set_cons_zero, List.set_cons_succ]
              refine wpAnyK_takeTo 2 (some 85) (.int .i64 (j3 : Int)) [] rfl rfl (by kernel_rfl) (by kernel_rfl) (by kernel_rfl) (by kernel_rfl) (fun _ _ _ h => h) hS (Or.inl ⟨rfl, fun w1 hw1 => by go_simp⟩) ?_
              simp only [Act.put, List.setIfInBounds_toArray, List.set_cons_zero, List.set_cons_succ]
              refine wpAnyK_takeTo 3 (some 86) (.pointer (some ⟨ga, j3 * 3, none⟩)) [] rfl rfl (by kernel_rfl) (by kernel_rfl) (by kernel_rfl) (by kernel_rfl) (fun _ _ _ h => h) hS (Or.inl ⟨rfl, fun w1 hw1 => by go_simp; first | done | omega⟩) ?_
              simp only [Act.put, List.setIfInBounds_toArray, List.set_cons_zero, List.set_cons_succ]
              refine wpAnyK_takeTo 4 (some 87) (.agg #[.int .i64 x3.page, .int .i64 x3.first, .int .i64 x3.last]) [] rfl rfl (by kernel_rfl) (by kernel_rfl) (by kernel_rfl) (by kernel_rfl) (fun _ _ _ h => h) hS (Or.inl ⟨rfl, fun w1 hw1 => by obtain ⟨h0, h1, h2, h3, h4, h5, h6, h7⟩ := hw1; go_simp⟩) ?_
              simp only [Act.put, List.setIfInBounds_toArray, List.set_cons_zero, List.set_cons_succ]
              refine wpAnyK_takeTo 5 (some 88) (.pointer (some ⟨y, 2, none⟩)) [] rfl rfl (by kernel_rfl) (by kernel_rfl) (by kernel_rfl) (by kernel_rfl) (fun _ _ _ h => h) hS (Or.inl ⟨rfl, fun w1 hw1 => by go_simp⟩) ?_
              simp only [Act.put, List.setIfInBounds_toArray, List.set_cons_zero, List.set_cons_succ]
              refine wpAnyK_takeTo 6 (some 89) (.slice (some ⟨gb, 0, none⟩) p3 d3) [] rfl rfl (by kernel_rfl) (by kernel_rfl) (by kernel_rfl) (by kernel_rfl) (fun _ _ _ h => h) hS (Or.inl ⟨rfl, fun w1 hw1 => by obtain ⟨h0, h1, h2, h3, h4, h5, h6, h7⟩ := hw1; go_simp⟩) ?_
              simp only [Act.put, List.setIfInBounds_toArray, List.set_cons_zero, List.set_cons_succ]
              refine wpAnyK_takeTo 7 (some 90) (.int .i64 (j3 : Int)) [] rfl rfl (by kernel_rfl) (by kernel_rfl) (by kernel_rfl) (by kernel_rfl) (fun _ _ _ h => h) hS (Or.inl ⟨rfl, fun w1 hw1 => by go_simp⟩) ?_
              simp only [Act.put, List.setIfInBounds_toArray, List.set_cons_zero, List.set_cons_succ]
              refine wpAnyK_takeTo 8 (some 91) (.pointer (some ⟨gb, j3 * 3, none⟩)) [] rfl rfl (by kernel_rfl) (by kernel_rfl) (by kernel_rfl) (by kernel_rfl) (fun _ _ _ h => h) hS (Or.inl ⟨rfl, fun w1 hw1 => by go_simp; first | done | omega⟩) ?_
              simp only [Act.put, List.setIfInBounds_toArray, List.set_cons_zero, List.set_cons_succ]
              refine wpAnyK_takeTo 9 (some 92) (.agg #[.int .i64 x3.page, .int .i64 x3.first, .int .i64 x3.last]) [] rfl rfl (by kernel_rfl) (by kernel_rfl) (by kernel_rfl) (by kernel_rfl) (fun _ _ _ h => h) hS (Or.inl ⟨rfl, fun w1 hw1 => by obtain ⟨h0, h1, h2, h3, h4, h5, h6, h7⟩ := hw1; go_simp⟩) ?_
              simp only [Act.put, List.setIfInBounds_toArray, List.set_cons_zero, List.set_cons_succ]
              refine wpAnyK_takeTo 10 (some 93) (.bool false) [] rfl rfl (by kernel_rfl) (by kernel_rfl) (by kernel_rfl) (by kernel_rfl) (fun _ _ _ h => h) hS (Or.inl ⟨rfl, fun w1 hw1 => by go_simp⟩) ?_
              simp only [Act.put, List.setIfInBounds_toArray, List.set_cons_zero, List.set_cons_succ]
              refine wpAnyK_done (by kernel_rfl) ?_ _
              clear hS
              go_wp2
              go_roundw
              case rel => exact ⟨j3 + 1, by omega, by go_num, HF7.out⟩
              case measure => simp [intOf]; omega
            · go_wp2
              go_ret
              exact ⟨rfl, (HF.out.trans HFr3.out).mono (by intro k _ h; simp at h)⟩
end Go.Proofs.Ytcmabldfegcdaaa
