/- tell: the keys of a part of a tree, one after the other. -/
import Derived.Test.YtigkinakhijfoaaGreatJy
namespace Go.Proofs.YtigkinakhijfoaaGreat
open Go.RowKit Go.Shelf
set_option maxRecDepth 100000
set_option linter.unusedVariables false
set_option linter.unusedSimpArgs false
attribute [local go_sem] Oper.semAt_some

set_option maxHeartbeats 8000000 in
theorem tell_step {o : Nat} {cur : Int} {X : Nat → Prop} {J Jx : List It → World → Prop} {fr to : ByteArray} {G : List It} {l h : Nat} (ho : o ≤ 64) (hJ : ∀ s A B, J s A → Fr A B (fun _ => False) → J s B)
    (hY : ∀ p x W1, p ++ [x] <+: G → J p W1 → ∀ m, YieldAt Fence.wide m Tryz.prog l #[.string x.key, .int .i64 x.val] W1 fun e W' => (e = .returned (.bool true) ∧ J (p ++ [x]) W' ∧ KX X W1 W') ∨ (e = .returned (.bool false) ∧ Jx (p ++ [x]) W'))
    (ih : h ≠ 0 → TellAt o cur X J Jx fr to G l (h - 1)) : TellAt o cur X J Jx fr to G l h := by
  intro lo m W d p0 hS hs hX hJ0 hN0
  obtain ⟨t, lv, kv, L, ks, hN, hK⟩ := sub_iff.1 hS
  obtain ⟨fs, hfl, hdF, hf0, hfk⟩ := node_fs hN hK
  have hsw : Srt (weave fs L) := by rw [← hdF]; exact hs
  have hL : Srt L := srt_items hsw
  have HFI := hide (find_any hN.toNodeP hL (by have := hN.high; omega) fr)
  have HN := hide hN
  have HK := hide hK
  have HFL := hide hfl
  have HDF := hide hdF
  have HF0 := hide hf0
  have HFK := hide hfk
  have HSW := hide hsw
  have HX := hide hX
  have HJ := hide hJ
  have HY := hide hY
  have HIH := hide ih
  have HJ0 := hide hJ0
  have HN0 := hide hN0
  have HL := hide hL
  clear hS hs hX hJ0 hN0 hN hK hfl hdF hf0 hfk hsw hL hJ hY ih
  refine callsIn_of_wp Tryz.func42 rfl trivial ?_ rfl
  simp only [Tryz.ntmps42, List.size_toArray, List.length_cons, List.length_nil, Nat.reduceAdd, Nat.reduceSub, Array.replicate_succ, Array.replicate_zero, List.push_toArray, List.append_toArray, List.nil_append, List.cons_append]
  gi_wp2_with fail
  refine ⟨trivial, fun h => by simp [Fence.wide] at h, ?_⟩
  refine (callsIn_wide.2 HFI.out).mono ?_
  rintro en W1 ⟨st, b, rfl, hfp, f1⟩
  have HFP := hide hfp
  have HST : Hid (J (p0 ++ rng fr to (PP fs L st)) W1) := hide (by
    rw [rng_below (PP_below HFL.out HSW.out hfp.1 hfp.below), List.append_nil]
    exact HJ.out _ _ _ HJ0.out f1)
  have HF1 := hide f1
  have hstl := hfp.1
  have HSTL := hide hstl
  obtain ⟨n, hn⟩ : ∃ n, L.length = n := ⟨_, rfl⟩
  have hnb : n ≤ 127 := by have := HN.out.high; omega
  have HLN := hide hn
  clear HFI hfp f1 hstl HJ0 hn
  gi_wp2_with fail
  gi_loopw [11] (fun vi wr => ∃ i : Nat, st ≤ i ∧ i ≤ n ∧ vi = .int .i64 (i : Int) ∧ J (p0 ++ rng fr to (PP fs L i)) wr ∧ KX X W wr) (fun vi _ => n + 1 - (intOf vi).toNat)
  case atStart => exact ⟨st, Nat.le_refl _, by rw [← HLN.out]; exact HSTL.out, rfl, HST.out, KX.of HF1.out⟩
  case round =>
    obtain ⟨i, hsi, hil, rfl, hJi, hkx⟩ := hrel
    rename World => V
    obtain ⟨f, hf⟩ : ∃ f, fs[i]? = some f := ⟨_, List.getElem?_eq_getElem (by rw [HFL.out, HLN.out]; omega)⟩
    have hN := HN.out.fr hkx (fun k hk h => h (HX.out k hk))
    have hK := HK.out.fr hkx (fun e he k hk h => h (HX.out k (HN.out.sx e he k hk)))
    have HLA := hide (last_any hN.toNodeP)
    have HNV := hide hN
    have HKV := hide hK
    have HJI := hide hJi
    have HKX := hide hkx
    have HF := hide hf
    have HSI := hide hsi
    clear hN hK hJi hkx hf hsi HST HSTL HF1
    obtain ⟨dg, hdg⟩ : ∃ dg, dg = d.g := ⟨_, rfl⟩
    rw [← hdg] at HLA ⊢
    have HDG := hide hdg
    clear hdg
    gi_wp2_with fail
    refine ⟨trivial, fun h => by simp [Fence.wide] at h, ?_⟩
    refine (callsIn_wide.2 HLA.out).mono ?_
    rintro en Vx ⟨rfl, hww⟩
    rw [hww]
    clear hww HLA
    rcases HKV.out.len with ⟨h0, hk0⟩ | ⟨h0, hk0⟩
    · have hdz : decide (ks.length = 0) = true := decide_eq_true hk0
      rw [hdz]
      clear hdz hk0
      have hfe := HF0.out h0 i f HF.out
      have HJT : Hid (J (p0 ++ rng fr to (PP fs L i ++ f)) V) := hide (by rw [hfe, List.append_nil]; exact HJI.out)
      clear hfe h0
      gi_wp2_with fail
      refine ⟨trivial, ?_⟩
      obtain ⟨la, lc, ka, kc', rfl, rfl⟩ := HNV.out.shape
      have x1 := HNV.out.cells.2.1
      rw [HLN.out, ← HDG.out] at x1
      by_cases hin : i = n
      · have hib : ((i : Int) == (n : Int)) = true := by rw [hin]; simp
        have HRES : Hid (TellQ X J Jx fr to p0 d.F W (.returned (.bool true)) V) := hide (.inl ⟨rfl, by
          have h1 := HF.out
          have h2 := HJT.out
          rw [hin, ← HLN.out] at h1 h2
          rw [HDF.out, PP_last HFL.out h1]
          exact h2, HKX.out⟩)
        have HIN := hide hin
        clear hin
        gi_wp2
        refine bodyPost_ret (results_tmp rfl _ _ _) rfl ?_
        exact HRES.out
      · have hib : ((i : Int) == (n : Int)) = false := by simpa using (show ¬ (i : Int) = (n : Int) by omega)
        have hlt : i < n := by omega
        obtain ⟨⟨xk, xv⟩, hx⟩ : ∃ x, L[i]? = some x := ⟨_, List.getElem?_eq_getElem (by rw [HLN.out]; omega)⟩
        obtain ⟨gl, rfl, ci⟩ := row_cell HNV.out.row (encI_get L i _ hx).1
        obtain ⟨g6, e6, cj⟩ := row_cell HNV.out.row (encI_get L i _ hx).2
        cases e6
        dsimp only at ci cj
        have hxf : 0 ≤ kc xk fr := HFP.out.2.2.1 i _ HSI.out hx
        obtain ⟨R, hR⟩ := PP_post HFL.out HF.out hx
        have hRx : ∀ z ∈ R, kc xk z.key < 0 := by
          have h2 := HSW.out
          rw [hR] at h2
          exact h2.app.2.1.cons.1
        have hnx := PP_next HFL.out HF.out hx
        obtain ⟨B, hB⟩ : ∃ B, B = V.heap.size := ⟨_, rfl⟩
        obtain ⟨Vb, hVb⟩ : ∃ Vb, Vb = V.alloc (.cells #[.string xk, .int .i64 xv] 106) := ⟨_, rfl⟩
        have bb : Vb.heap[B]? = some (.cells #[.string xk, .int .i64 xv] 106 (0, 0)) := by rw [hVb, hB]; exact heap_alloc_new _ _
        have z0 : Vb.cell? ⟨B, 0, none⟩ = some (.string xk) := (cell_of_row _ _ _ _ _ _ bb).trans rfl
        have z1 : Vb.cell? ⟨B, 1, none⟩ = some (.int .i64 xv) := (cell_of_row _ _ _ _ _ _ bb).trans rfl
        have fb : Fr V Vb (fun _ => False) := by rw [hVb]; exact Fr.alloc _ _ _
        have hJb := HJ.out _ _ _ HJT.out fb
        have HKB := hide (HKX.out.trans (KX.of fb))
        have HJB := hide hJb
        have HB := hide hB
        have HVB := hide hVb
        have HXF := hide hxf
        have HR := hide hR
        have HRX := hide hRx
        have HNX := hide hnx
        have hgeq : Op.bytesLess xk.toList to.toList = decide (kc xk to < 0) := by rw [ByteArray.toList_eq, ByteArray.toList_eq]; exact bytesLess_kc xk to
        clear hx hxf hR hRx hnx bb fb hJb hB hVb hin
        by_cases hup : upto to xk = true
        · have hlN : (p0 ++ rng fr to (PP fs L i ++ f)) ++ [⟨xk, xv⟩] <+: G := by
            have h1 := HN0.out
            rw [HDF.out, HR.out, show PP fs L i ++ f ++ (⟨xk, xv⟩ : It) :: R = PP fs L i ++ f ++ [⟨xk, xv⟩] ++ R by simp, rng_append, rng_append, rng_in HXF.out hup] at h1
            exact List.IsPrefix.trans ⟨rng fr to R, by simp⟩ h1
          obtain ⟨fn, tmps, assign, body, hy, hRd⟩ := HY.out _ ⟨xk, xv⟩ Vb hlN HJB.out (m - 1)
          have HRD := hide hRd
          dsimp only at hy
          have HUP := hide hup
          clear hRd hlN
          have HGO : Hid (∀ V3, J (p0 ++ rng fr to (PP fs L i ++ f) ++ [⟨xk, xv⟩]) V3 → J (p0 ++ rng fr to (PP fs L (i + 1))) V3) := hide (fun V3 h3 => by
            rw [HNX.out, rng_append, rng_in HXF.out HUP.out, ← List.append_assoc]
            exact h3)
          have HSTOP : Hid (∀ V3, Jx (p0 ++ rng fr to (PP fs L i ++ f) ++ [⟨xk, xv⟩]) V3 → TellQ X J Jx fr to p0 d.F W (.returned (.bool false)) V3) := hide (fun V3 h3 => .inr (.inr ⟨rfl, rng fr to (PP fs L i ++ f) ++ [⟨xk, xv⟩], by
            rw [HDF.out, HR.out, show PP fs L i ++ f ++ (⟨xk, xv⟩ : It) :: R = (PP fs L i ++ f ++ [⟨xk, xv⟩]) ++ R by simp]
            have h5 : rng fr to ((PP fs L i ++ f ++ [⟨xk, xv⟩]) ++ R) = rng fr to (PP fs L i ++ f) ++ [⟨xk, xv⟩] ++ rng fr to R := by rw [rng_append, rng_append, rng_in (x := ⟨xk, xv⟩) HXF.out HUP.out]
            rw [h5]
            exact List.prefix_append _ _, by rw [← List.append_assoc]; exact h3⟩))
          by_cases hte : to.data.toList = []
          · have hte' : to.toList = [] := by rw [ByteArray.toList_eq]; exact hte
            clear hte
            clear hup
            gi_wp2_with (rw [← HVB.out, ← HB.out]; clear HVB)
            refine ⟨fun h => by simp [Fence.wide] at h, ?_⟩
            refine HRD.out.mono ?_
            rintro en V3 (⟨rfl, hj3, hk3⟩ | ⟨rfl, hj3⟩)
            · have HREL : Hid (J (p0 ++ rng fr to (PP fs L (i + 1))) V3 ∧ KX X W V3) := hide ⟨HGO.out V3 hj3, HKB.out.trans hk3⟩
              clear hj3 hk3 hy z0 z1 ci cj x1
              gi_wp2
              go_roundw
              case rel => exact ⟨i + 1, by have := HSI.out; omega, by omega, rfl, HREL.out.1, HREL.out.2⟩
              case measure => simp [intOf]; omega
            · have HRES := hide (HSTOP.out V3 hj3)
              clear hj3 hy z0 z1 ci cj x1
              gi_wp2
              refine bodyPost_ret (results_tmp rfl _ _ _) rfl ?_
              exact HRES.out
          · have hte2 : to.data.toList.isEmpty = false := by cases hq : to.data.toList with
              | nil => exact absurd hq hte
              | cons a b => rfl
            have hkd : decide (kc xk to < 0) = true := by
              unfold upto at hup
              rw [hte2, Bool.false_or] at hup
              exact hup
            rw [hkd] at hgeq
            have hte' : ¬ to.toList = [] := by rw [ByteArray.toList_eq]; exact hte
            clear hkd hte hte2
            clear hup
            gi_wp2_with (rw [← HVB.out, ← HB.out]; clear HVB)
            refine ⟨fun h => by simp [Fence.wide] at h, ?_⟩
            refine HRD.out.mono ?_
            rintro en V3 (⟨rfl, hj3, hk3⟩ | ⟨rfl, hj3⟩)
            · have HREL : Hid (J (p0 ++ rng fr to (PP fs L (i + 1))) V3 ∧ KX X W V3) := hide ⟨HGO.out V3 hj3, HKB.out.trans hk3⟩
              clear hj3 hk3 hy z0 z1 ci cj x1
              gi_wp2
              go_roundw
              case rel => exact ⟨i + 1, by have := HSI.out; omega, by omega, rfl, HREL.out.1, HREL.out.2⟩
              case measure => simp [intOf]; omega
            · have HRES := hide (HSTOP.out V3 hj3)
              clear hj3 hy z0 z1 ci cj x1
              gi_wp2
              refine bodyPost_ret (results_tmp rfl _ _ _) rfl ?_
              exact HRES.out
        · have hup : upto to xk = false := by simpa using hup
          have hte : ¬ to.data.toList = [] := fun e => by unfold upto at hup; rw [e] at hup; simp at hup
          have hte2 : to.data.toList.isEmpty = false := by cases hq : to.data.toList with
            | nil => exact absurd hq hte
            | cons a b => rfl
          have hkd : decide (kc xk to < 0) = false := by
            unfold upto at hup
            rw [hte2, Bool.false_or] at hup
            exact hup
          rw [hkd] at hgeq
          have HRES : Hid (TellQ X J Jx fr to p0 d.F W (.returned (.bool false)) Vb) := hide (.inr (.inl ⟨rfl, by
            rw [HDF.out, HR.out, rng_append, rng_over (A := ⟨xk, xv⟩ :: R) (fun z hz => by
              rcases List.mem_cons.1 hz with rfl | hz
              · exact hup
              · exact upto_mono (HRX.out z hz) hup), List.append_nil]
            exact HJB.out, ⟨xk, xv⟩, by rw [HDF.out, HR.out]; simp, hup⟩))
          have hte' : ¬ to.toList = [] := by rw [ByteArray.toList_eq]; exact hte
          clear hkd hup hte hte2
          gi_wp2_with (rw [← HVB.out, ← HB.out]; clear HVB)
          refine ⟨fun _ h => (by cases h), ?_⟩
          gi_wp2
          refine bodyPost_ret (results_tmp rfl _ _ _) rfl ?_
          exact HRES.out
    · have hdz : decide (ks.length = 0) = false := decide_eq_false (by omega)
      rw [hdz]
      clear hdz
      obtain ⟨h', rfl⟩ : ∃ h', h = h' + 1 := ⟨h - 1, by omega⟩
      obtain ⟨e, hie⟩ : ∃ e, ks[i]? = some e := ⟨_, List.getElem?_eq_getElem (by have := HLN.out; omega)⟩
      have hfF : f = e.F := by
        have h1 := HF.out
        rw [HFK.out (by omega), List.getElem?_map, hie] at h1
        exact (Option.some.inj h1).symm
      have hem : e ∈ ks := List.mem_of_getElem? hie
      have hse := HKV.out.2 e hem
      obtain ⟨R0, hR0⟩ : ∃ R0, d.F = PP fs L i ++ f ++ R0 := ⟨_, by rw [HDF.out]; exact PP_split HFL.out HF.out⟩
      have hsr : Srt e.F := by
        have h1 := HSW.out
        rw [← HDF.out, hR0, hfF] at h1
        exact h1.app.1.app.2.1
      have hbd : (p0 ++ rng fr to (PP fs L i) ++ rng fr to e.F) <+: G := by
        have h1 := HN0.out
        rw [hR0, rng_append, rng_append, hfF] at h1
        exact List.IsPrefix.trans ⟨rng fr to R0, by simp⟩ h1
      have HIE := hide (fun m => HIH.out (by omega) (o - 1) m V e (p0 ++ rng fr to (PP fs L i)) hse hsr (fun k hk => HX.out k (HN.out.sx e hem k hk)) HJI.out hbd)
      obtain ⟨la, lc, ka, kc', rfl, rfl⟩ := HNV.out.shape
      obtain ⟨gk, rfl, cv⟩ := row_cell HNV.out.krow (show (ptrs ks)[i]? = some (.pointer (some ⟨e.g, 0, none⟩)) by unfold ptrs; rw [List.getElem?_map, hie]; rfl)
      obtain ⟨mk, hmk⟩ : ∃ mk, ks.length = mk := ⟨_, rfl⟩
      have x2 := HNV.out.cells.2.2
      rw [hmk, ← HDG.out] at x2
      have him : i < mk := by rw [← hmk]; exact (List.getElem?_eq_some_iff.1 hie).1
      have hmb : mk ≤ 128 := by have := HLN.out; omega
      have HFF := hide hfF
      have HR0 := hide hR0
      have HMK := hide hmk
      clear hfF hR0 hse hsr hbd hie hem hmk hk0 h0
      gi_wp2_with fail
      refine ⟨trivial, fun h => by simp [Fence.wide] at h, ?_⟩
      refine (HIE.out _).mono ?_
      rintro en V2 (⟨rfl, hj2, hk2⟩ | ⟨rfl, hj2, y, hy, hyu⟩ | ⟨rfl, q, hq, hj2⟩)
      · have HJT : Hid (J (p0 ++ rng fr to (PP fs L i ++ f)) V2) := hide (by rw [rng_append, ← List.append_assoc, HFF.out]; exact hj2)
        have HKV2 := hide (HKX.out.trans hk2)
        have HNV2 := hide (HN.out.fr HKV2.out (fun k hk h => h (HX.out k hk)))
        clear hj2 hk2 HIE x2 cv him hmb HNV HKV HKX HJI
        have x1 := HNV2.out.cells.2.1
        rw [HLN.out, ← HDG.out] at x1
        by_cases hin : i = n
        · have hib : ((i : Int) == (n : Int)) = true := by rw [hin]; simp
          have HRES : Hid (TellQ X J Jx fr to p0 d.F W (.returned (.bool true)) V2) := hide (.inl ⟨rfl, by
            have h1 := HF.out
            have h2 := HJT.out
            rw [hin, ← HLN.out] at h1 h2
            rw [HDF.out, PP_last HFL.out h1]
            exact h2, HKV2.out⟩)
          have HIN := hide hin
          clear hin
          gi_wp2
          refine bodyPost_ret (results_tmp rfl _ _ _) rfl ?_
          exact HRES.out
        · have hib : ((i : Int) == (n : Int)) = false := by simpa using (show ¬ (i : Int) = (n : Int) by omega)
          have hlt : i < n := by omega
          obtain ⟨⟨xk, xv⟩, hx⟩ : ∃ x, L[i]? = some x := ⟨_, List.getElem?_eq_getElem (by rw [HLN.out]; omega)⟩
          obtain ⟨gl, rfl, ci⟩ := row_cell HNV2.out.row (encI_get L i _ hx).1
          obtain ⟨g6, e6, cj⟩ := row_cell HNV2.out.row (encI_get L i _ hx).2
          cases e6
          dsimp only at ci cj
          have hxf : 0 ≤ kc xk fr := HFP.out.2.2.1 i _ HSI.out hx
          obtain ⟨R, hR⟩ := PP_post HFL.out HF.out hx
          have hRx : ∀ z ∈ R, kc xk z.key < 0 := by
            have h2 := HSW.out
            rw [hR] at h2
            exact h2.app.2.1.cons.1
          have hnx := PP_next HFL.out HF.out hx
          obtain ⟨B, hB⟩ : ∃ B, B = V2.heap.size := ⟨_, rfl⟩
          obtain ⟨Vb, hVb⟩ : ∃ Vb, Vb = V2.alloc (.cells #[.string xk, .int .i64 xv] 106) := ⟨_, rfl⟩
          have bb : Vb.heap[B]? = some (.cells #[.string xk, .int .i64 xv] 106 (0, 0)) := by rw [hVb, hB]; exact heap_alloc_new _ _
          have z0 : Vb.cell? ⟨B, 0, none⟩ = some (.string xk) := (cell_of_row _ _ _ _ _ _ bb).trans rfl
          have z1 : Vb.cell? ⟨B, 1, none⟩ = some (.int .i64 xv) := (cell_of_row _ _ _ _ _ _ bb).trans rfl
          have fb : Fr V2 Vb (fun _ => False) := by rw [hVb]; exact Fr.alloc _ _ _
          have hJb := HJ.out _ _ _ HJT.out fb
          have HKB := hide (HKV2.out.trans (KX.of fb))
          have HJB := hide hJb
          have HB := hide hB
          have HVB := hide hVb
          have HXF := hide hxf
          have HR := hide hR
          have HRX := hide hRx
          have HNX := hide hnx
          have hgeq : Op.bytesLess xk.toList to.toList = decide (kc xk to < 0) := by rw [ByteArray.toList_eq, ByteArray.toList_eq]; exact bytesLess_kc xk to
          clear hx hxf hR hRx hnx bb fb hJb hB hVb hin
          by_cases hup : upto to xk = true
          · have hlN : (p0 ++ rng fr to (PP fs L i ++ f)) ++ [⟨xk, xv⟩] <+: G := by
              have h1 := HN0.out
              rw [HDF.out, HR.out, show PP fs L i ++ f ++ (⟨xk, xv⟩ : It) :: R = PP fs L i ++ f ++ [⟨xk, xv⟩] ++ R by simp, rng_append, rng_append, rng_in HXF.out hup] at h1
              exact List.IsPrefix.trans ⟨rng fr to R, by simp⟩ h1
            obtain ⟨fn, tmps, assign, body, hy, hRd⟩ := HY.out _ ⟨xk, xv⟩ Vb hlN HJB.out (m - 1)
            have HRD := hide hRd
            dsimp only at hy
            have HUP := hide hup
            clear hRd hlN
            have HGO : Hid (∀ V3, J (p0 ++ rng fr to (PP fs L i ++ f) ++ [⟨xk, xv⟩]) V3 → J (p0 ++ rng fr to (PP fs L (i + 1))) V3) := hide (fun V3 h3 => by
              rw [HNX.out, rng_append, rng_in HXF.out HUP.out, ← List.append_assoc]
              exact h3)
            have HSTOP : Hid (∀ V3, Jx (p0 ++ rng fr to (PP fs L i ++ f) ++ [⟨xk, xv⟩]) V3 → TellQ X J Jx fr to p0 d.F W (.returned (.bool false)) V3) := hide (fun V3 h3 => .inr (.inr ⟨rfl, rng fr to (PP fs L i ++ f) ++ [⟨xk, xv⟩], by
              rw [HDF.out, HR.out, show PP fs L i ++ f ++ (⟨xk, xv⟩ : It) :: R = (PP fs L i ++ f ++ [⟨xk, xv⟩]) ++ R by simp]
              have h5 : rng fr to ((PP fs L i ++ f ++ [⟨xk, xv⟩]) ++ R) = rng fr to (PP fs L i ++ f) ++ [⟨xk, xv⟩] ++ rng fr to R := by rw [rng_append, rng_append, rng_in (x := ⟨xk, xv⟩) HXF.out HUP.out]
              rw [h5]
              exact List.prefix_append _ _, by rw [← List.append_assoc]; exact h3⟩))
            by_cases hte : to.data.toList = []
            · have hte' : to.toList = [] := by rw [ByteArray.toList_eq]; exact hte
              clear hte
              clear hup
              gi_wp2_with (rw [← HVB.out, ← HB.out]; clear HVB)
              refine ⟨fun h => by simp [Fence.wide] at h, ?_⟩
              refine HRD.out.mono ?_
              rintro en V3 (⟨rfl, hj3, hk3⟩ | ⟨rfl, hj3⟩)
              · have HREL : Hid (J (p0 ++ rng fr to (PP fs L (i + 1))) V3 ∧ KX X W V3) := hide ⟨HGO.out V3 hj3, HKB.out.trans hk3⟩
                clear hj3 hk3 hy z0 z1 ci cj x1
                gi_wp2
                go_roundw
                case rel => exact ⟨i + 1, by have := HSI.out; omega, by omega, rfl, HREL.out.1, HREL.out.2⟩
                case measure => simp [intOf]; omega
              · have HRES := hide (HSTOP.out V3 hj3)
                clear hj3 hy z0 z1 ci cj x1
                gi_wp2
                refine bodyPost_ret (results_tmp rfl _ _ _) rfl ?_
                exact HRES.out
            · have hte2 : to.data.toList.isEmpty = false := by cases hq : to.data.toList with
                | nil => exact absurd hq hte
                | cons a b => rfl
              have hkd : decide (kc xk to < 0) = true := by
                unfold upto at hup
                rw [hte2, Bool.false_or] at hup
                exact hup
              rw [hkd] at hgeq
              have hte' : ¬ to.toList = [] := by rw [ByteArray.toList_eq]; exact hte
              clear hkd hte hte2
              clear hup
              gi_wp2_with (rw [← HVB.out, ← HB.out]; clear HVB)
              refine ⟨fun h => by simp [Fence.wide] at h, ?_⟩
              refine HRD.out.mono ?_
              rintro en V3 (⟨rfl, hj3, hk3⟩ | ⟨rfl, hj3⟩)
              · have HREL : Hid (J (p0 ++ rng fr to (PP fs L (i + 1))) V3 ∧ KX X W V3) := hide ⟨HGO.out V3 hj3, HKB.out.trans hk3⟩
                clear hj3 hk3 hy z0 z1 ci cj x1
                gi_wp2
                go_roundw
                case rel => exact ⟨i + 1, by have := HSI.out; omega, by omega, rfl, HREL.out.1, HREL.out.2⟩
                case measure => simp [intOf]; omega
              · have HRES := hide (HSTOP.out V3 hj3)
                clear hj3 hy z0 z1 ci cj x1
                gi_wp2
                refine bodyPost_ret (results_tmp rfl _ _ _) rfl ?_
                exact HRES.out
          · have hup : upto to xk = false := by simpa using hup
            have hte : ¬ to.data.toList = [] := fun e => by unfold upto at hup; rw [e] at hup; simp at hup
            have hte2 : to.data.toList.isEmpty = false := by cases hq : to.data.toList with
              | nil => exact absurd hq hte
              | cons a b => rfl
            have hkd : decide (kc xk to < 0) = false := by
              unfold upto at hup
              rw [hte2, Bool.false_or] at hup
              exact hup
            rw [hkd] at hgeq
            have HRES : Hid (TellQ X J Jx fr to p0 d.F W (.returned (.bool false)) Vb) := hide (.inr (.inl ⟨rfl, by
              rw [HDF.out, HR.out, rng_append, rng_over (A := ⟨xk, xv⟩ :: R) (fun z hz => by
                rcases List.mem_cons.1 hz with rfl | hz
                · exact hup
                · exact upto_mono (HRX.out z hz) hup), List.append_nil]
              exact HJB.out, ⟨xk, xv⟩, by rw [HDF.out, HR.out]; simp, hup⟩))
            have hte' : ¬ to.toList = [] := by rw [ByteArray.toList_eq]; exact hte
            clear hkd hup hte hte2
            gi_wp2_with (rw [← HVB.out, ← HB.out]; clear HVB)
            refine ⟨fun _ h => (by cases h), ?_⟩
            gi_wp2
            refine bodyPost_ret (results_tmp rfl _ _ _) rfl ?_
            exact HRES.out
      · have HRES : Hid (TellQ X J Jx fr to p0 d.F W (.returned (.bool false)) V2) := hide (.inr (.inl ⟨rfl, by
          have h1 : rng fr to R0 = [] := rng_over (fun z hz => by
            have h2 := HSW.out
            rw [← HDF.out, HR0.out, HFF.out] at h2
            exact upto_mono (h2.app.2.2 y (List.mem_append_right _ hy) z hz) hyu)
          rw [HR0.out, rng_append, rng_append, h1, List.append_nil, ← List.append_assoc, HFF.out]
          exact hj2, y, by rw [HR0.out, HFF.out]; simp [hy], hyu⟩))
        clear hj2 hy hyu HIE x2 cv
        gi_wp2
        refine bodyPost_ret (results_tmp rfl _ _ _) rfl ?_
        exact HRES.out
      · have HRES : Hid (TellQ X J Jx fr to p0 d.F W (.returned (.bool false)) V2) := hide (.inr (.inr ⟨rfl, rng fr to (PP fs L i) ++ q, by
          rw [HR0.out, rng_append, rng_append, HFF.out]
          obtain ⟨s, hs⟩ := hq
          exact ⟨s ++ rng fr to R0, by rw [← hs]; simp⟩, by rw [← List.append_assoc]; exact hj2⟩))
        clear hj2 hq HIE x2 cv
        gi_wp2
        refine bodyPost_ret (results_tmp rfl _ _ _) rfl ?_
        exact HRES.out
end Go.Proofs.YtigkinakhijfoaaGreat
