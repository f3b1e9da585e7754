/- bind.Holds; moved terms stay well-formed. -/
import Derived.Test.YtbcmgodpplapaaaPm
import Derived.Test.YtbcmgodpplapaaaZd
namespace Go.Proofs.Ytbcmgodpplapaaa
open Go.RowKit
set_option maxRecDepth 100000
set_option linter.unusedVariables false
set_option linter.unusedSimpArgs false

mutual
theorem move_wf (d : Int) : ∀ t : Tm, WfT t → WfT (moveE d t)
  | .mk op kind val place args, h => by
    unfold WfT at h
    rw [moveE]
    split
    all_goals (unfold WfT; exact ⟨by rw [moveL_map, List.length_map]; exact h.1, moveL_wf d args h.2⟩)
theorem moveL_wf (d : Int) : ∀ l : List Tm, WfL l → WfL (moveL d l)
  | [], h => by rw [moveL]; unfold WfL; trivial
  | t :: l, h => by
    unfold WfL at h
    rw [moveL]
    unfold WfL
    exact ⟨move_wf d t h.1, moveL_wf d l h.2⟩
end
mutual
theorem parts_wf : ∀ t : Tm, WfT t → ∀ u ∈ partsE t, WfT u
  | .mk op kind val place args, h, u, hu => by
    have h' := h
    unfold WfT at h
    rw [partsE] at hu
    split at hu
    · exact partsL_wf args h.2 u hu
    · rw [List.mem_singleton] at hu; subst hu; exact h'
theorem partsL_wf : ∀ l : List Tm, WfL l → ∀ u ∈ partsL l, WfT u
  | [], h, u, hu => by rw [partsL] at hu; cases hu
  | t :: l, h, u, hu => by
    unfold WfL at h
    rw [partsL] at hu
    rcases List.mem_append.1 hu with hu | hu
    · exact parts_wf t h.1 u hu
    · exact partsL_wf l h.2 u hu
end
theorem tm_shape {w : World} {P : Nat → Prop} {e : Tm} {x0 x1 x2 x3 x4 x5 x6 : Value} (h : TmAt P w e (.agg #[x0, x1, x2, x3, x4, x5, x6])) : ∃ s0 k0 k1 k2 s1 k3 a n c, x0 = .string s0 ∧ x1 = .int .i64 k0 ∧ x2 = .int .i64 k1 ∧ x3 = .int .i64 k2 ∧ x4 = .string s1 ∧ x5 = .int .i64 k3 ∧ x6 = .slice a n c := by
  obtain ⟨op, kind, val, place, args⟩ := e
  unfold TmAt at h
  obtain ⟨a, c, h, _⟩ := h
  simp only [Value.agg.injEq, Array.mk.injEq, List.cons.injEq, and_true] at h
  exact ⟨_, _, _, _, _, _, _, _, _, h.1, h.2.1, h.2.2.1, h.2.2.2.1, h.2.2.2.2.1, h.2.2.2.2.2.1, h.2.2.2.2.2.2⟩
set_option maxHeartbeats 8000000 in
theorem holds_any {w : World} {P : Nat → Prop} (ra : Option Addr) (rn rc : Nat) (row : List Vl) (hrow : ValsIn w ra row) (hrn : row.length = rn) (hrb : rn ≤ 4611686018427387904) (ta : Option Addr) (tn tc : Nat) (ts : List Tm) (hts : TmsAt P w ts ta 0) (htn : ts.length = tn) (htb : tn ≤ 4611686018427387904) (hwf : ∀ t ∈ ts, WfT t) :
    Calls Try.prog 16 #[.slice ra rn rc, .slice ta tn tc] w fun e w' => e = .returned (.bool (ts.all (HoldsT row))) ∧ Fr w w' (fun _ => False) := by
  have HROW := hide hrow
  have HRN := hide hrn
  have HTS := hide hts
  have HTN := hide htn
  have HWF := hide hwf
  clear hrow hrn hts htn hwf
  go_enter Try.func16, Try.ntmps16
  go_wp2_with fail
  go_loopw [11] (fun i wr => ∃ j : Nat, j ≤ tn ∧ i = .int .i64 (j : Int) ∧ (ts.take j).all (HoldsT row) = true ∧ Fr w wr (fun _ => False)) (fun i _ => tn - (intOf i).toNat)
  case atStart => exact ⟨0, Nat.zero_le _, rfl, by simp, Fr.refl _ _⟩
  case round =>
    rename World => W2
    obtain ⟨j, hj, rfl, hall, hf⟩ := hrel
    have HALL := hide hall
    have HF := hide hf
    clear hall
    rcases Nat.lt_or_ge j tn with hlt | hge
    · obtain ⟨t, ht⟩ : ∃ t, ts[j]? = some t := ⟨_, List.getElem?_eq_getElem (by rw [HTN.out]; exact hlt)⟩
      have hts2 := TmsAt.fr (Q := P) hf (fun _ _ h => h) (fun k h _ => h) _ _ _ HTS.out
      obtain ⟨g, x0, x1, x2, x3, x4, x5, x6, ha, _, d0, d1, d2, d3, d4, d5, d6, htm⟩ := TmsAt.get _ _ _ hts2 j t ht
      rw [Nat.zero_add] at d0 d1 d2 d3 d4 d5 d6
      obtain ⟨z0, z1, z2, z3, z4, z5, za, zn, zc, rfl, rfl, rfl, rfl, rfl, rfl, rfl⟩ := tm_shape htm
      have HTK : Hid ((ts.take (j + 1)).all (HoldsT row) = HoldsT row t) := hide (by rw [List.take_add_one, ht, List.all_append, HALL.out]; simp)
      have HAL2 : Hid (HoldsT row t = false → ts.all (HoldsT row) = false) := hide (fun h => by
        rw [List.all_eq_false]
        exact ⟨t, List.mem_of_getElem? ht, by rw [h]; simp⟩)
      have FX := Fr.alloc W2 (.cells #[.string z0, .int .i64 z1, .int .i64 z2, .int .i64 z3, .string z4, .int .i64 z5, .slice za zn zc] 53) (fun _ => False)
      have HX := hide (sev_of (heap_alloc_new W2 (.cells #[.string z0, .int .i64 z1, .int .i64 z2, .int .i64 z3, .string z4, .int .i64 z5, .slice za zn zc] 53)))
      have HEV := hide (evalF_any appP ra rn rc row t _ (reck_any ra rn rc row HRN.out (by omega) t (HWF.out t (List.mem_of_getElem? ht))) ((HROW.out.fr hf).fr FX) (TmAt.fr (Q := P) FX (fun _ _ h => h) (fun k h _ => h) _ _ htm))
      have HF3 := hide (hf.two FX)
      have HN := hide (evalE_err row t)
      obtain ⟨o, ho⟩ : ∃ o, evalE appP row t = o := ⟨_, rfl⟩
      have HO : Hid (HoldsT row t = HoldsO o) := hide (by rw [holdsO_eq, ho])
      rw [ho] at HEV HN
      clear hf ht hts2 htm FX ho
      subst ha
      have s0 := HX.out.c0
      have s1 := HX.out.c1
      have s2 := HX.out.c2
      have s3 := HX.out.c3
      have s4 := HX.out.c4
      have s5 := HX.out.c5
      have s6 := HX.out.c6
      go_wp2_with fail
      clear s0 s1 s2 s3 s4 s5 s6 d0 d1 d2 d3 d4 d5 d6
      refine HEV.out.mono ?_
      rintro e W4 ⟨hp, f4⟩
      have HF4 := hide (HF3.out.two f4)
      clear f4 HEV HX HF3
      rcases o with cd | x
      · obtain rfl : e = .returned (.tuple #[zV.v, .int .i64 cd]) := hp
        have hc0 : (cd != 0) = true := by simp [HN.out cd rfl]
        have HF5 := hide (HF4.out.two (Fr.alloc W4 (.cells #[.int .i64 0, .int .i64 0, .string ⟨#[]⟩] 50) (fun _ => False)))
        go_wp2
        go_ret
        exact ⟨by rw [HAL2.out HO.out]; rfl, HF5.out⟩
      · obtain rfl : e = .returned (.tuple #[x.v, .int .i64 0]) := hp
        have FV := Fr.alloc W4 (.cells #[.int .i64 x.kind, .int .i64 x.num, .string x.text] 50) (fun _ => False)
        have HF5 := hide (HF4.out.two FV)
        have HV := hide (tri_of (heap_alloc_new W4 (.cells #[.int .i64 x.kind, .int .i64 x.num, .string x.text] 50)))
        clear FV
        have v0 := HV.out.c0
        have v1 := HV.out.c1
        have v2 := HV.out.c2
        go_wp2_with fail
        clear v0 v1 v2
        refine (isTrue_any x _).mono ?_
        rintro e W5 ⟨rfl, f5⟩
        have HF6 := hide (HF5.out.two f5)
        clear f5
        obtain ⟨b, hb⟩ : ∃ b, isT x = b := ⟨_, rfl⟩
        rw [hb]
        cases b
        · go_wp2
          go_ret
          exact ⟨by rw [HAL2.out (by rw [HO.out]; exact hb)]; rfl, HF6.out⟩
        · go_wp2
          go_roundw
          case rel => exact ⟨j + 1, by omega, by go_num, by rw [HTK.out, HO.out]; exact hb, HF6.out⟩
          case measure => simp [intOf]; omega
    · have e1 : tn = j := by omega
      subst e1
      have HE : Hid (ts.all (HoldsT row) = true) := hide (by have := HALL.out; rw [List.take_of_length_le (by rw [HTN.out]; exact Nat.le_refl _)] at this; exact this)
      go_wp2
      go_ret
      exact ⟨by rw [HE.out]; rfl, HF.out⟩
end Go.Proofs.Ytbcmgodpplapaaa
