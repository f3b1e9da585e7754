/- The walk of PeriodSets. -/
import Derived.Test.YtaikhmedehbfbaaRw
namespace Go.Proofs.Ytaikhmedehbfbaa
open Go.RowKit
set_option linter.unusedVariables false

theorem where_union {L O U : List Per} (h : IsWhere ⟨0, 0⟩ L [] O) (hu : IsUnion L U) : O = U :=
  canon_unique O U h.canon hu.canon (fun t => by
    rw [h.mem, hu.mem]
    constructor
    · rintro (⟨h1, _⟩ | h1)
      · have := h1.2.1; simp at this
      · exact h1
    · exact fun h1 => .inr h1)
theorem where_minus {p : Per} {L O U : List Per} (h : IsWhere p [] L O) (hu : IsMinus p L U) : O = U :=
  canon_unique O U h.canon hu.canon (fun t => by
    rw [h.mem, hu.mem]
    constructor
    · rintro (h1 | ⟨q, hq, _⟩)
      · exact h1
      · cases hq
    · exact fun h1 => .inl h1)

set_option maxRecDepth 100000 in
set_option maxHeartbeats 4000000 in
theorem sets_walk (p : Per) (a : Option Addr) (c : Nat) (L : List Per) (w : World) (hv : Pers w a L) (hL : L.length ≤ 8796093021980) (hac : a = none → c = 0) :
    Calls Try.prog 3 #[perV p, .slice a L.length c] w fun e w' => e = .returned (.bool true) ∧ Fr w w' (fun _ => False) := by
  have FA := Fr.alloc w (.cells #[.int .i64 p.lo, .int .i64 p.hi] 23) (fun _ => False)
  have HFA := hide FA
  have HVw := hide hv
  have HT := hide (two_of (heap_alloc_new w (.cells #[.int .i64 p.lo, .int .i64 p.hi] 23)))
  have HMI := hide (fun W h => minus_any p a c L W h (by omega))
  have HRM := hide (fun W h => rminus_any p a c L W h (by omega) hac)
  unfold perV at HMI HRM ⊢
  clear hv FA
  go_enter Try.func3, Try.ntmps3
  go_wp2_with fail
  obtain ⟨W0, hW0⟩ : ∃ W0, W0 = w.alloc (.cells #[.int .i64 p.lo, .int .i64 p.hi] 23) := ⟨_, rfl⟩
  obtain ⟨gb, hgb⟩ : ∃ gb, gb = w.heap.size := ⟨_, rfl⟩
  rw [← hW0] at HFA HT ⊢
  rw [← hgb] at HT ⊢
  clear hW0 hgb
  refine (awake_any W0).mono ?_
  rintro e W1 ⟨rfl, f1⟩
  have HF1 := hide ((HFA.out.trans f1).mono (Y := fun _ => False) (by simp))
  have HT1 := hide (HT.out.fr f1 (fun h => h))
  clear f1 HFA HT
  go_wp2_with fail
  refine (edges_any a c L W1 (HVw.out.fr HF1.out (fun _ _ _ _ h => h)) (by omega)).mono ?_
  rintro e W2 ⟨v2, E, rfl, ho2, he2, hl2, f2, _⟩
  have HF2 := hide ((HF1.out.trans f2).mono (Y := fun _ => False) (by simp))
  have HT2 := hide (HT1.out.fr f2 (fun h => h))
  have HO2 := hide ho2
  have HE2 := hide he2
  obtain ⟨a2, c2, hv2, _⟩ := ho2.shape
  subst hv2
  clear f2 ho2 he2 HF1 HT1
  go_wp2_with fail
  refine (redges_any a c L W2 (HVw.out.fr HF2.out (fun _ _ _ _ h => h)) (by omega)).mono ?_
  rintro e W3 ⟨v3, E3, rfl, ho3, he3, hl3, f3, _⟩
  obtain rfl := edges_unique he3 HE2.out
  have HF3 := hide ((HF2.out.trans f3).mono (Y := fun _ => False) (by simp))
  have HT3 := hide (HT2.out.fr f3 (fun h => h))
  have HA3 := hide (HO2.out.fr f3 (fun _ _ h => h))
  have HB3 := hide ho3
  obtain ⟨a3, c3, hv3, _⟩ := ho3.shape
  subst hv3
  clear f3 ho3 he3 HF2 HT2 HO2 HE2
  go_wp2_with fail
  go_loopw [21] (fun i wr => ∃ k : Nat, k ≤ E3.length ∧ i = .int .i64 k ∧ Fr W3 wr (fun _ => False)) (fun i _ => E3.length - (intOf i).toNat)
  case atStart => exact ⟨0, by omega, rfl, Fr.refl _ _⟩
  case round =>
    rename World => W
    obtain ⟨k, hk, rfl, hf⟩ := hrel
    have HF := hide hf
    clear hf
    by_cases hlt : k < E3.length
    · obtain ⟨t, ht⟩ : ∃ t, E3[k]? = some t := ⟨_, List.getElem?_eq_getElem hlt⟩
      have FD : Fr W3 W.drew (fun _ => False) := (HF.out.trans (Fr.drew W (fun _ => False))).mono (by simp)
      obtain ⟨g2, rfl, d0⟩ := (HA3.out.fr FD (fun _ _ h => h)).at k t ht
      obtain ⟨g3, rfl, d1⟩ := (HB3.out.fr FD (fun _ _ h => h)).at k t ht
      have HFD := hide FD
      have hS := And.intro d0 d1
      clear ht FD d0 d1
      go_wp2_with fail
      refine wp_region_K (fun _ => true) (fun V => V.cell? ⟨g2, k, none⟩ = some (.int .i64 t) ∧ V.cell? ⟨g3, k, none⟩ = some (.int .i64 t)) (by kernel_rfl) ?_
      refine wpAnyK_takeTo 0 (some 24) (.slice (some ⟨g2, 0, none⟩) E3.length c2) [] rfl rfl (by kernel_rfl) (by kernel_rfl) (by kernel_rfl) (by kernel_rfl) (fun _ _ _ h => h) hS (Or.inl ⟨rfl, fun w1 hw1 => by go_simp⟩) ?_
      simp only [Act.put, List.setIfInBounds_toArray, List.set_cons_zero, List.set_cons_succ]
      refine wpAnyK_takeTo 1 (some 25) (.int .i64 (k : Int)) [] rfl rfl (by kernel_rfl) (by kernel_rfl) (by kernel_rfl) (by kernel_rfl) (fun _ _ _ h => h) hS (Or.inl ⟨rfl, fun w1 hw1 => by go_simp⟩) ?_
      simp only [Act.put, List.setIfInBounds_toArray, List.set_cons_zero, List.set_cons_succ]
      refine wpAnyK_takeTo 2 (some 26) (.pointer (some ⟨g2, k, none⟩)) [] rfl rfl (by kernel_rfl) (by kernel_rfl) (by kernel_rfl) (by kernel_rfl) (fun _ _ _ h => h) hS (Or.inl ⟨rfl, fun w1 hw1 => by go_simp; first | done | (intro h; omega)⟩) ?_
      simp only [Act.put, List.setIfInBounds_toArray, List.set_cons_zero, List.set_cons_succ]
      refine wpAnyK_takeTo 3 (some 27) (.int .i64 t) [] rfl rfl (by kernel_rfl) (by kernel_rfl) (by kernel_rfl) (by kernel_rfl) (fun _ _ _ h => h) hS (Or.inl ⟨rfl, fun w1 hw1 => by obtain ⟨x0, x1⟩ := hw1; go_simp⟩) ?_
      simp only [Act.put, List.setIfInBounds_toArray, List.set_cons_zero, List.set_cons_succ]
      refine wpAnyK_takeTo 4 (some 28) (.slice (some ⟨g3, 0, none⟩) E3.length c3) [] rfl rfl (by kernel_rfl) (by kernel_rfl) (by kernel_rfl) (by kernel_rfl) (fun _ _ _ h => h) hS (Or.inl ⟨rfl, fun w1 hw1 => by go_simp⟩) ?_
      simp only [Act.put, List.setIfInBounds_toArray, List.set_cons_zero, List.set_cons_succ]
      refine wpAnyK_takeTo 5 (some 29) (.int .i64 (k : Int)) [] rfl rfl (by kernel_rfl) (by kernel_rfl) (by kernel_rfl) (by kernel_rfl) (fun _ _ _ h => h) hS (Or.inl ⟨rfl, fun w1 hw1 => by go_simp⟩) ?_
      simp only [Act.put, List.setIfInBounds_toArray, List.set_cons_zero, List.set_cons_succ]
      refine wpAnyK_takeTo 6 (some 30) (.pointer (some ⟨g3, k, none⟩)) [] rfl rfl (by kernel_rfl) (by kernel_rfl) (by kernel_rfl) (by kernel_rfl) (fun _ _ _ h => h) hS (Or.inl ⟨rfl, fun w1 hw1 => by go_simp; first | done | (intro h; omega)⟩) ?_
      simp only [Act.put, List.setIfInBounds_toArray, List.set_cons_zero, List.set_cons_succ]
      refine wpAnyK_takeTo 7 (some 31) (.int .i64 t) [] rfl rfl (by kernel_rfl) (by kernel_rfl) (by kernel_rfl) (by kernel_rfl) (fun _ _ _ h => h) hS (Or.inl ⟨rfl, fun w1 hw1 => by obtain ⟨x0, x1⟩ := hw1; go_simp⟩) ?_
      simp only [Act.put, List.setIfInBounds_toArray, List.set_cons_zero, List.set_cons_succ]
      refine wpAnyK_takeTo 8 (some 32) (.bool false) [] rfl rfl (by kernel_rfl) (by kernel_rfl) (by kernel_rfl) (by kernel_rfl) (fun _ _ _ h => h) hS (Or.inl ⟨rfl, fun w1 hw1 => by go_simp⟩) ?_
      simp only [Act.put, List.setIfInBounds_toArray, List.set_cons_zero, List.set_cons_succ]
      refine wpAnyK_done (by kernel_rfl) ?_ _
      clear hS
      go_wp2
      go_roundw
      case rel => exact ⟨k + 1, by omega, by go_num, HFD.out⟩
      case measure => simp [intOf]; omega
    · have HTW := hide (HT3.out.fr HF.out (fun h => h))
      have HFW := hide ((HF3.out.trans HF.out).mono (Y := fun _ => False) (by simp))
      clear HA3 HB3 HT3 HF3 HF
      go_wp2_with fail
      have hSx : ∀ V, Fr W V (fun _ => False) → V.cell? ⟨gb, 0, none⟩ = some (.int .i64 p.lo) ∧ V.cell? ⟨gb, 1, none⟩ = some (.int .i64 p.hi) := fun V hV => ⟨(HTW.out.fr hV (fun h => h)).1, (HTW.out.fr hV (fun h => h)).2.1⟩
      have HPV : ∀ V, Fr W V (fun _ => False) → Pers V a L := fun V hV => HVw.out.fr ((HFW.out.trans hV).mono (Y := fun _ => False) (by simp)) (fun _ _ _ _ h => h)
      have FD := Fr.drew W (fun _ => False)
      have hS := hSx _ FD
      refine wp_region_K (fun _ => true) (fun V => V.cell? ⟨gb, 0, none⟩ = some (.int .i64 p.lo) ∧ V.cell? ⟨gb, 1, none⟩ = some (.int .i64 p.hi)) (by kernel_rfl) ?_
      refine wpAnyK_takeTo 0 (some 34) (.slice a L.length c) [] rfl rfl (by kernel_rfl) (by kernel_rfl) (by kernel_rfl) (by kernel_rfl) (fun _ _ _ h => h) hS (Or.inl ⟨rfl, fun w1 hw1 => by go_simp⟩) ?_
      simp only [Act.put, List.setIfInBounds_toArray, List.set_cons_zero, List.set_cons_succ]
      refine wpAnyK_takeTo 2 (some 36) (.slice a L.length c) [] rfl rfl (by kernel_rfl) (by kernel_rfl) (by kernel_rfl) (by kernel_rfl) (fun _ _ _ h => h) hS (Or.inl ⟨rfl, fun w1 hw1 => by go_simp⟩) ?_
      simp only [Act.put, List.setIfInBounds_toArray, List.set_cons_zero, List.set_cons_succ]
      refine wpAnyK_one (i := 1) (by kernel_rfl) rfl rfl ?_
      refine wp_call_to (some 35) rfl 12 #[.slice a L.length c] (by go_simp) (union_any a c L W.drew (HPV _ FD) (by omega)) ?_
      rintro e V1 ⟨u1, U, rfl, o1, hu1, g1, _⟩
      have G1 : Fr W V1 (fun _ => False) := (FD.trans g1).mono (by simp)
      obtain ⟨b1, d1, hw1, _, _⟩ := o1.shape
      subst hw1
      have hlU := hu1.len
      have hS := hSx V1 G1
      refine ⟨_, rfl, fun _ => hS, ?_⟩
      simp only [Act.put, List.setIfInBounds_toArray, List.set_cons_zero, List.set_cons_succ]
      refine wpAnyK_one (i := 3) (by kernel_rfl) rfl rfl ?_
      refine wp_call_to (some 37) rfl 13 #[.slice a L.length c] (by go_simp) (runion_any a c L V1 (HPV _ G1) (by omega) hac) ?_
      rintro e V2 ⟨u2, U2, rfl, o2, hu2, g2, _⟩
      obtain rfl := where_union hu2 hu1
      have G2 : Fr W V2 (fun _ => False) := (G1.trans g2).mono (by simp)
      obtain ⟨b2, d2, hw2, _, _⟩ := o2.shape
      subst hw2
      have hS := hSx V2 G2
      refine ⟨_, rfl, fun _ => hS, ?_⟩
      simp only [Act.put, List.setIfInBounds_toArray, List.set_cons_zero, List.set_cons_succ]
      refine wpAnyK_one (i := 4) (by kernel_rfl) rfl rfl ?_
      refine wp_call_to (some 38) rfl 11 #[.slice b1 U2.length d1, .slice b2 U2.length d2] (by go_simp) (same_any b1 d1 b2 d2 U2 V2 (o1.fr g2 (fun _ _ h => h)).pers o2.pers (by omega)) ?_
      rintro e V3 ⟨rfl, g3⟩
      have G3 : Fr W V3 (fun _ => False) := (G2.trans g3).mono (by simp)
      have hS := hSx V3 G3
      refine ⟨_, rfl, fun _ => hS, ?_⟩
      simp only [Act.put, List.setIfInBounds_toArray, List.set_cons_zero, List.set_cons_succ]
      refine wpAnyK_takeTo 5 (some 39) (.bool true) [] rfl rfl (by kernel_rfl) (by kernel_rfl) (by kernel_rfl) (by kernel_rfl) (fun _ _ _ h => h) hS (Or.inl ⟨rfl, fun w1 hw1 => by go_simp⟩) ?_
      simp only [Act.put, List.setIfInBounds_toArray, List.set_cons_zero, List.set_cons_succ]
      refine wpAnyK_takeTo 6 (some 40) (.agg #[.int .i64 p.lo, .int .i64 p.hi]) [] rfl rfl (by kernel_rfl) (by kernel_rfl) (by kernel_rfl) (by kernel_rfl) (fun _ _ _ h => h) hS (Or.inl ⟨rfl, fun w1 hw1 => by obtain ⟨x0, x1⟩ := hw1; go_simp⟩) ?_
      simp only [Act.put, List.setIfInBounds_toArray, List.set_cons_zero, List.set_cons_succ]
      refine wpAnyK_takeTo 7 (some 41) (.slice a L.length c) [] rfl rfl (by kernel_rfl) (by kernel_rfl) (by kernel_rfl) (by kernel_rfl) (fun _ _ _ h => h) hS (Or.inl ⟨rfl, fun w1 hw1 => by go_simp⟩) ?_
      simp only [Act.put, List.setIfInBounds_toArray, List.set_cons_zero, List.set_cons_succ]
      refine wpAnyK_takeTo 9 (some 43) (.agg #[.int .i64 p.lo, .int .i64 p.hi]) [] rfl rfl (by kernel_rfl) (by kernel_rfl) (by kernel_rfl) (by kernel_rfl) (fun _ _ _ h => h) hS (Or.inl ⟨rfl, fun w1 hw1 => by obtain ⟨x0, x1⟩ := hw1; go_simp⟩) ?_
      simp only [Act.put, List.setIfInBounds_toArray, List.set_cons_zero, List.set_cons_succ]
      refine wpAnyK_takeTo 10 (some 44) (.slice a L.length c) [] rfl rfl (by kernel_rfl) (by kernel_rfl) (by kernel_rfl) (by kernel_rfl) (fun _ _ _ h => h) hS (Or.inl ⟨rfl, fun w1 hw1 => by go_simp⟩) ?_
      simp only [Act.put, List.setIfInBounds_toArray, List.set_cons_zero, List.set_cons_succ]
      refine wpAnyK_one (i := 8) (by kernel_rfl) rfl rfl ?_
      refine wp_call_to (some 42) rfl 14 #[.agg #[.int .i64 p.lo, .int .i64 p.hi], .slice a L.length c] (by go_simp) (HMI.out V3 (HPV _ G3)) ?_
      rintro e V4 ⟨u4, X, rfl, o4, hu4, g4, _⟩
      have G4 : Fr W V4 (fun _ => False) := (G3.trans g4).mono (by simp)
      obtain ⟨b4, d4, hw4, _, _⟩ := o4.shape
      subst hw4
      have hlX := hu4.len
      have hS := hSx V4 G4
      refine ⟨_, rfl, fun _ => hS, ?_⟩
      simp only [Act.put, List.setIfInBounds_toArray, List.set_cons_zero, List.set_cons_succ]
      refine wpAnyK_one (i := 11) (by kernel_rfl) rfl rfl ?_
      refine wp_call_to (some 45) rfl 15 #[.agg #[.int .i64 p.lo, .int .i64 p.hi], .slice a L.length c] (by go_simp) (HRM.out V4 (HPV _ G4)) ?_
      rintro e V5 ⟨u5, X2, rfl, o5, hu5, g5, _⟩
      obtain rfl := where_minus hu5 hu4
      have G5 : Fr W V5 (fun _ => False) := (G4.trans g5).mono (by simp)
      obtain ⟨b5, d5, hw5, _, _⟩ := o5.shape
      subst hw5
      have hS := hSx V5 G5
      refine ⟨_, rfl, fun _ => hS, ?_⟩
      simp only [Act.put, List.setIfInBounds_toArray, List.set_cons_zero, List.set_cons_succ]
      refine wpAnyK_one (i := 12) (by kernel_rfl) rfl rfl ?_
      refine wp_call_to (some 46) rfl 11 #[.slice b4 X2.length d4, .slice b5 X2.length d5] (by go_simp) (same_any b4 d4 b5 d5 X2 V5 (o4.fr g5 (fun _ _ h => h)).pers o5.pers (by omega)) ?_
      rintro e V6 ⟨rfl, g6⟩
      have G6 : Fr W V6 (fun _ => False) := (G5.trans g6).mono (by simp)
      have hS := hSx V6 G6
      refine ⟨_, rfl, fun _ => hS, ?_⟩
      simp only [Act.put, List.setIfInBounds_toArray, List.set_cons_zero, List.set_cons_succ]
      refine wpAnyK_takeTo 13 (some 47) (.bool true) [] rfl rfl (by kernel_rfl) (by kernel_rfl) (by kernel_rfl) (by kernel_rfl) (fun _ _ _ h => h) hS (Or.inl ⟨rfl, fun w1 hw1 => by go_simp⟩) ?_
      simp only [Act.put, List.setIfInBounds_toArray, List.set_cons_zero, List.set_cons_succ]
      refine wpAnyK_takeTo 14 (some 4) (.bool true) [] rfl rfl (by kernel_rfl) (by kernel_rfl) (by kernel_rfl) (by kernel_rfl) (fun _ _ _ h => h) hS (Or.inl ⟨rfl, fun w1 hw1 => by go_simp⟩) ?_
      simp only [Act.put, List.setIfInBounds_toArray, List.set_cons_zero, List.set_cons_succ]
      refine wpAnyK_done (by kernel_rfl) ?_ _
      have HFE := hide ((HFW.out.trans G6).mono (Y := fun _ => False) (by simp))
      clear hS hSx HPV FD G1 G2 G3 G4 G5 G6 g1 g2 g3 g4 g5 g6 o1 o2 o4 o5
      go_wp2
      go_ret
      exact ⟨rfl, HFE.out⟩
end Go.Proofs.Ytaikhmedehbfbaa
