/- BagCoalesces: the walk. -/
import Derived.Test.YtlapifncplbcnaaGreatCv
import Derived.Test.YtlapifncplbcnaaGreatMk
import Derived.Test.YtlapifncplbcnaaGreatLp
namespace Go.Proofs.YtlapifncplbcnaaGreat
open Go.RowKit Go.Sort Go.Shelf
set_option maxRecDepth 100000
set_option linter.unusedVariables false
set_option linter.unusedSimpArgs false

set_option maxHeartbeats 16000000 in
theorem coalesces_walk {w : World} {px : Option Addr} {cx nx : Nat} {X : List Ft} (t : Int) (hx : FIn w ⟨px, cx, X⟩) (hnx : nx = X.length) (hlx : nx ≤ 349525) :
    Calls Tryz.prog 5 #[.slice px nx cx, .int .i64 t] w fun e w' => e = .returned (.bool true) ∧ Fr w w' (fun _ => False) := by
  have HX := hide hx
  have HNX := hide hnx
  clear hx hnx
  go_enter Tryz.func5, Tryz.ntmps5
  go_wp2_with fail
  refine (awake_any _).mono ?_
  rintro e w1 ⟨rfl, f1⟩
  have HF1 := hide f1
  clear f1
  go_wp2_with fail
  refine (coalesce_any (HX.out.fr HF1.out) HNX.out (by omega)).mono ?_
  rintro e w2 ⟨pc, cc, nc, CF, rfl, hnc, hlc, hic, hoc, hfc⟩
  have HNC := hide hnc
  have HIC := hide hic
  have HOC := hide hoc
  have HF2 := hide ((HF1.out.trans hfc).mono (Y := fun _ => False) (by simp))
  clear hnc hic hoc hfc HF1
  go_wp2_with fail
  refine (canonical_any HIC.out HNC.out (by omega) (HOC.out.can (Rts.steps _ _))).mono ?_
  rintro e w3 ⟨rfl, f3⟩
  have HIC3 := hide (HIC.out.fr f3)
  have HF3 := hide ((HF2.out.trans f3).mono (Y := fun _ => False) (by simp))
  clear f3 HIC HF2
  go_wp2_with fail
  refine (coalesce_any HIC3.out HNC.out (by omega)).mono ?_
  rintro e w4 ⟨pd, cd, nd, DF, rfl, hnd, hld, hid, hod, hfd⟩
  have HND := hide hnd
  have HID := hide hid
  have HOD := hide hod
  have HIC4 := hide (HIC3.out.fr hfd)
  have HF4 := hide ((HF3.out.trans hfd).mono (Y := fun _ => False) (by simp))
  clear hnd hid hod hfd HIC3 HF3
  go_wp2_with fail
  refine (same_at HID.out HIC4.out HND.out HNC.out (by omega)).mono ?_
  rintro e w5 ⟨rfl, f5⟩
  rw [show decide (DF.map Ft.fa = CF.map Ft.fa) = true from decide_eq_true (co_again HOC.out HOD.out)]
  have HIC5 := hide (HIC4.out.fr f5)
  have HF5 := hide ((HF4.out.trans f5).mono (Y := fun _ => False) (by simp))
  clear f5 HIC4 HF4 HID
  go_wp2_with fail
  refine (norm_one HIC5.out HNC.out (by omega)).mono ?_
  rintro e w6 ⟨v6, NF_, rfl, hm⟩
  obtain ⟨p6, c6, n6, rfl, hn6, hl6, hi6, ho6, hf6⟩ := hm.take (one_abs HNC.out)
  have HN6 := hide hn6
  have HI6 := hide hi6
  have HO6 := hide ho6
  have HIC6 := hide (HIC5.out.fr hf6)
  have HF6 := hide ((HF5.out.trans hf6).mono (Y := fun _ => False) (by simp))
  clear hm hn6 hi6 ho6 hf6 HIC5 HF5
  go_wp2_with fail
  refine (same_at HI6.out HIC6.out HN6.out HNC.out (by omega)).mono ?_
  rintro e w7 ⟨rfl, f7⟩
  rw [show decide (NF_.map Ft.fa = CF.map Ft.fa) = true from decide_eq_true (co_normal HOC.out HO6.out)]
  have HIC7 := hide (HIC6.out.fr f7)
  have HF7 := hide ((HF6.out.trans f7).mono (Y := fun _ => False) (by simp))
  clear f7 HIC6 HF6 HI6
  have HSL := hide (show Calls Tryz.prog 30 #[.slice px nx cx, .int .i64 t] w7 fun e w' => ∃ v R, e = .returned v ∧ Own elR w' v R ∧ (R.map Rw.row).Perm (rowsAt X t) ∧ R.Pairwise (fun a b => 0 ≤ cmpL b.row a.row) ∧ (∀ r ∈ R, Rok w' (fun _ => True) r.p r.c r.row) ∧ Fr w7 w' (fun _ => False) from by
    rw [HNX.out]
    refine Calls.mono (slice_any (x := ⟨px, cx, X⟩) (HX.out.fr HF7.out) t (by show X.length ≤ _; have := HNX.out; omega)) ?_
    rintro e w' ⟨v, R, h1, h2, h3, h4, h5, h6, h7⟩
    exact ⟨v, R, h1, h2, h3, h4, fun r hr => (h5 r hr).mono (fun _ _ _ => trivial), h7⟩)
  go_wp2_with fail
  refine HSL.out.mono ?_
  rintro e w8 ⟨v8, R, rfl, hor, hpr, hsr, hrr, hfr⟩
  have HPR := hide hpr
  have HSR := hide (show R.Pairwise (fun a b => 0 ≤ cmpL b.row a.row) from hsr)
  have HRR := hide hrr
  have HIC8 := hide (HIC7.out.fr hfr)
  have HF8 := hide ((HF7.out.trans hfr).mono (Y := fun _ => False) (by simp))
  obtain ⟨aR, cR, hv8, _⟩ := hor.shape
  obtain ⟨nR, hnR⟩ : ∃ nR, nR = R.length := ⟨_, rfl⟩
  rw [← hnR] at hv8
  have HNR := hide hnR
  have hnRl : nR ≤ 549755813888 := by
    have h1 := hpr.length_eq
    rw [List.length_map] at h1
    have h2 : (rowsAt X t).length ≤ X.length := by unfold rowsAt; rw [List.length_map]; exact List.length_filter_le ..
    have := HNX.out
    omega
  have hrow := hor
  rw [hv8] at hrow
  have HROW := hide hrow.row
  subst hv8
  clear hor hpr hsr hrr hfr hnR hrow HSL HIC7 HF7
  go_wp2_with fail
  go_loopw [6, 36] (fun v i wr => ∃ (k : Nat) (O : List Rw), i = .int .i64 (k : Int) ∧ k ≤ nR ∧ Own elR wr v O ∧ DqI ((R.take k).map Rw.row) (O.map Rw.row) ∧ O.length ≤ k ∧ (∀ q, v.ownBlock = some q → w8.heap.size ≤ q) ∧ (∀ x ∈ O, x ∈ R) ∧ Fr w8 wr (fun _ => False)) (fun _ i _ => nR - (intOf i).toNat)
  case atStart => exact ⟨0, [], rfl, Nat.zero_le _, Own.nil elR _, ⟨by simp, by simp⟩, by simp, (by intro q hq; cases hq), by simp, Fr.refl _ _⟩
  case round =>
    rename World => w9
    obtain ⟨k, O, rfl, hk, ho, hd, hle, hb, hsub, hf⟩ := hrel
    have HO := hide ho
    have HD := hide hd
    have HB := hide hb
    have HSUB := hide hsub
    have HF := hide hf
    clear ho hd hb hsub hf
    by_cases hlt : k < nR
    · obtain ⟨x, hx⟩ : ∃ x, R[k]? = some x := ⟨_, List.getElem?_eq_getElem (by rw [← HNR.out]; exact hlt)⟩
      have HXX := hide hx
      have HXM := hide (List.mem_of_getElem? hx)
      have HTK := hide (show (R.take (k + 1)).map Rw.row = (R.take k).map Rw.row ++ [x.row] by rw [take_snoc hx, List.map_append]; rfl)
      have HBF := hide (show ∀ r ∈ (R.take k).map Rw.row, 0 ≤ cmpL x.row r from fun r hr => by
        obtain ⟨z, hz, rfl⟩ := List.mem_map.1 hr
        obtain ⟨i, hi⟩ := List.mem_iff_getElem?.1 hz
        have hil := (List.getElem?_eq_some_iff.1 hi).1
        rw [List.length_take] at hil
        rw [List.getElem?_take_of_lt (by omega)] at hi
        obtain ⟨h1, h2⟩ := List.getElem?_eq_some_iff.1 hi
        obtain ⟨h3, h4⟩ := List.getElem?_eq_some_iff.1 hx
        have := List.pairwise_iff_getElem.1 HSR.out i k h1 h3 (by omega)
        rw [h2, h4] at this
        exact this)
      obtain ⟨g, off, rfl, hg, c0⟩ := rowR_at (HROW.out.fr HF.out (fun _ _ _ _ h => h)) hx
      obtain ⟨nx2, hnx2⟩ : ∃ n, n = x.row.length := ⟨_, rfl⟩
      rw [← hnx2] at c0
      have HN2 := hide hnx2
      have HOL := hide (show O.length ≤ 549755813888 by omega)
      have HLK := hide hle
      clear hx hg hnx2
      rcases List.eq_nil_or_concat O with hO | ⟨O0, y, hO⟩
      · subst hO
        obtain ⟨au, cu, hv4, _⟩ := HO.out.shape
        simp only [List.length_nil] at hv4
        subst hv4
        have HPU := hide (HD.out.push (x := x.row) (by simp))
        go_wp2_with (refine wpList_push elR rfl (.tmp 54) (.tmp 56) rfl (.slice au 0 cu) _ rfl HO.out [x] _ 1 1 rfl rfl (by first | rfl | simp) (by have := HOL.out; simp only [List.length_singleton]; omega) _ (by rw [HN2.out]; rfl) ?_; intro v' wa ho hf hr2; have HOA := hide ho; have HFA := hide hf; have HRA := hide hr2; clear ho hf hr2)
        go_roundw
        case rel =>
          refine ⟨k + 1, [] ++ [x], by go_num, by omega, HOA.out, by rw [HTK.out]; exact HPU.out, by simp, HRA.out.le HF.out.size HB.out, by simpa using HXM.out, (HF.out.trans HFA.out).mono ?_⟩
          rintro q hq (h | h)
          · exact h
          · have := HB.out q h; omega
        case measure => simp [intOf]; omega
      · rw [List.concat_eq_append] at hO
        subst hO
        obtain ⟨n0, hn0⟩ : ∃ n0, n0 = O0.length := ⟨_, rfl⟩
        obtain ⟨au, cu, hv4, hcu, hnu, _, hsu⟩ := HO.out.shape
        obtain ⟨gu, hgu⟩ : ∃ gu, au = some ⟨gu, 0, none⟩ := by
          cases ha : au with
          | none => have := (hnu ha).2; simp at this
          | some z => obtain ⟨g2, e2⟩ := hsu z ha; exact ⟨g2, by rw [e2]⟩
        rw [hgu, show (O0 ++ [y]).length = n0 + 1 by rw [List.length_append, hn0]; rfl] at hv4
        subst hv4
        have hn0l : n0 + 1 ≤ 549755813888 := by have := HOL.out; rw [List.length_append, ← hn0] at this; exact this
        have wn : IntKind.i64.wrap ((n0 : Int) + 1 - 1) = (n0 : Int) := by rw [IntKind.wrap_i64]; omega
        have wn2 : IntKind.i64.wrap (n0 : Int) = (n0 : Int) := by rw [IntKind.wrap_i64]; omega
        have hne0 : ¬ ((n0 : Int) + 1 = 0) := by omega
        have hlast : (O0 ++ [y])[n0]? = some y := by rw [hn0]; simp
        obtain ⟨g5, o5, e5, _, d0⟩ := rowR_at HO.out.row hlast
        injection e5 with e5
        injection e5 with e5 e6
        subst e5 e6
        simp only [Nat.zero_add] at d0
        have HYM := hide (HSUB.out y (by simp))
        have HRS := hide (rsame_any ((HRR.out y HYM.out).fr HF.out (fun _ _ _ h => h)) ((HRR.out x HXM.out).fr HF.out (fun _ _ _ h => h)))
        rw [← HN2.out] at HRS
        clear hgu hnu hsu hcu hlast hn0
        go_wp2_with fail
        refine HRS.out.mono ?_
        rintro e wb ⟨rfl, fb⟩
        have HFB := hide ((HF.out.trans fb).mono (Y := fun _ => False) (by simp))
        have HOB := hide (HO.out.fr fb (fun _ _ h => h))
        clear fb d0 c0 HRS HO HF
        by_cases hs : y.row = x.row
        · rw [show decide (y.row = x.row) = true from decide_eq_true hs]
          have HDS := hide (HD.out.same (x := x.row) (by rw [← hs, List.map_append]; simp))
          clear hs
          go_wp2
          go_roundw
          case rel => exact ⟨k + 1, O0 ++ [y], by go_num, by omega, HOB.out, by rw [HTK.out]; exact HDS.out, by have := HLK.out; omega, HB.out, HSUB.out, HFB.out⟩
          case measure => simp [intOf]; omega
        · rw [show decide (y.row = x.row) = false from decide_eq_false hs]
          have HDP := hide (show DqI ((R.take k).map Rw.row ++ [x.row]) ((O0 ++ [y]).map Rw.row ++ [x.row]) from HD.out.push (by
            have h1 := HD.out
            rw [List.map_append] at h1 ⊢
            exact h1.lt HBF.out hs))
          clear hs
          go_wp2_with (refine wpList_push elR rfl (.tmp 54) (.tmp 56) rfl (.slice (some ⟨gu, 0, none⟩) (n0 + 1) cu) _ rfl HOB.out [x] _ 1 1 rfl rfl (by first | rfl | simp) (by have := HOL.out; simp only [List.length_singleton]; omega) _ (by rw [HN2.out]; rfl) ?_; intro v' wa ho hf hr2; have HOA := hide ho; have HFA := hide hf; have HRA := hide hr2; clear ho hf hr2)
          go_roundw
          case rel =>
            refine ⟨k + 1, O0 ++ [y] ++ [x], by go_num, by omega, HOA.out, by rw [HTK.out, List.map_append (l₂ := [x])]; exact HDP.out, by have := HLK.out; rw [List.length_append]; simp at this ⊢; omega, HRA.out.le HFB.out.size HB.out, fun z hz => by
              rcases List.mem_append.1 hz with h | h
              · exact HSUB.out z h
              · rw [List.mem_singleton.1 h]; exact HXM.out, (HFB.out.trans HFA.out).mono ?_⟩
            rintro q hq (h | h)
            · exact h
            · have := HB.out q h; omega
          case measure => simp [intOf]; omega
    · obtain rfl : k = nR := by omega
      have hd := HD.out
      have hE : R.take k = R := by rw [HNR.out, List.take_length]
      rw [hE] at hd
      have HDE := hide hd
      obtain ⟨aO, cO, hvO, _⟩ := HO.out.shape
      obtain ⟨nO, hnO⟩ : ∃ nO, nO = O.length := ⟨_, rfl⟩
      rw [← hnO] at hvO
      have HNO := hide hnO
      have hro := HO.out
      rw [hvO] at hro
      have HROO := hide hro.row
      have HROK := hide (show ∀ x ∈ O, Rok w9 (fun _ => True) x.p x.c x.row from fun x hx => (HRR.out x (HSUB.out x hx)).fr HF.out (fun _ _ _ h => h))
      have HIC9 := hide (HIC8.out.fr HF.out)
      have HF9 := hide ((HF8.out.trans HF.out).mono (Y := fun _ => False) (by simp))
      subst hvO
      have HSL := hide (show Calls Tryz.prog 30 #[.slice pc nc cc, .int .i64 t] w9 fun e w' => ∃ v R, e = .returned v ∧ Own elR w' v R ∧ (R.map Rw.row).Perm (rowsAt CF t) ∧ R.Pairwise (fun a b => 0 ≤ cmpL b.row a.row) ∧ (∀ r ∈ R, Rok w' (fun _ => True) r.p r.c r.row) ∧ Fr w9 w' (fun _ => False) from by
        rw [HNC.out]
        refine Calls.mono (slice_any (x := ⟨pc, cc, CF⟩) HIC9.out t (by show CF.length ≤ _; have := HNC.out; omega)) ?_
        rintro e w' ⟨v, R, h1, h2, h3, h4, h5, h6, h7⟩
        exact ⟨v, R, h1, h2, h3, h4, fun r hr => (h5 r hr).mono (fun _ _ _ => trivial), h7⟩)
      clear hd hE hro hnO HO HD HB HF
      go_wp2_with fail
      refine HSL.out.mono ?_
      rintro e wa ⟨va, R2, rfl, hor, hpr, hsr, hrr, hfr⟩
      obtain ⟨a2, c2, hv2, _⟩ := hor.shape
      obtain ⟨n2, hn2⟩ : ∃ n2, n2 = R2.length := ⟨_, rfl⟩
      have hn2l : n2 ≤ 549755813888 := by
        have h1 := hpr.length_eq
        rw [List.length_map] at h1
        have h2 : (rowsAt CF t).length ≤ CF.length := by unfold rowsAt; rw [List.length_map]; exact List.length_filter_le ..
        have := HNC.out
        omega
      rw [← hn2] at hv2
      have hrow := hor
      rw [hv2] at hrow
      have HSA := hide (samerows_any (c := c2) (d := cO) hrow.row (HROO.out.fr hfr (fun _ _ _ _ h => h)) hn2 HNO.out (by omega) hrr (fun x hx => (HROK.out x hx).fr hfr (fun _ _ _ h => h)))
      have HEQ := hide (show decide (R2.map Rw.row = O.map Rw.row) = true from decide_eq_true (co_rows HOC.out hpr (by rw [List.pairwise_map]; exact hsr) HPR.out HDE.out))
      have HFA := hide ((HF9.out.trans hfr).mono (Y := fun _ => False) (by simp))
      subst hv2
      clear hor hpr hsr hrr hfr hn2 hrow HSL
      go_wp2_with fail
      refine HSA.out.mono ?_
      rintro e wc ⟨rfl, fc⟩
      rw [HEQ.out]
      have HFC := hide ((HFA.out.trans fc).mono (Y := fun _ => False) (by simp))
      clear fc
      go_wp2
      go_ret
      exact ⟨rfl, HFC.out⟩
end Go.Proofs.YtlapifncplbcnaaGreat
