/- BagNormal: the walk. -/
import Derived.Test.YtlapifncplbcnaaGreatHp
namespace Go.Proofs.YtlapifncplbcnaaGreat
open Go.RowKit Go.Sort Go.Shelf
set_option maxRecDepth 100000
set_option linter.unusedVariables false
set_option linter.unusedSimpArgs false

theorem slice_at {V : World} {p : Option Addr} {c n : Nat} {L : List Ft} (hz : FIn V ⟨p, c, L⟩) (hn : n = L.length) (hl : n ≤ 549755813888) (t : Int) :
    Calls Tryz.prog 30 #[.slice p n c, .int .i64 t] V fun e w' => ∃ a k c' R, e = .returned (.slice a k c') ∧ k = R.length ∧ k ≤ n ∧ Row elR w' a R ∧ (R.map Rw.row).Perm (rowsAt L t) ∧ R.Pairwise (fun a b => 0 ≤ cmpL b.row a.row) ∧ (∀ r ∈ R, Rok w' (fun _ => True) r.p r.c r.row) ∧ Fr V w' (fun _ => False) := by
  subst hn
  refine Calls.mono (slice_any (x := ⟨p, c, L⟩) hz t hl) ?_
  rintro e w' ⟨v, R, rfl, h2, h3, h4, h5, h6, h7⟩
  obtain ⟨a, c', hv, _⟩ := h2.shape
  rw [hv] at h2
  refine ⟨a, R.length, c', R, by rw [hv], rfl, ?_, h2.row, h3, h4, fun r hr => (h5 r hr).mono (fun _ _ _ => trivial), h7⟩
  have h1 : (R.map Rw.row).length = (rowsAt L t).length := h3.length_eq
  rw [List.length_map] at h1
  have h8 : (rowsAt L t).length ≤ L.length := by unfold rowsAt; rw [List.length_map]; exact List.length_filter_le ..
  omega
theorem rowK_cells {w V : World} {g off : Nat} {K : List Ce} (h : Row elK w (some ⟨g, off, none⟩) K) (hf : Fr w V (fun _ => False)) {j : Nat} {x : Ce} (hx : K[j]? = some x) : V.cell? ⟨g, off + j * 3, none⟩ = some (.int .i64 x.lo) ∧ V.cell? ⟨g, off + j * 3 + 1, none⟩ = some (.int .i64 x.hi) ∧ V.cell? ⟨g, off + j * 3 + 2, none⟩ = some (.slice x.p x.R.length x.c) := by
  have h1 := h.fr hf (fun _ _ _ _ h => h)
  exact ⟨h1.at hx (i := 0) rfl, h1.at hx (i := 1) rfl, h1.at hx (i := 2) rfl⟩
theorem alk_next {X Y : List Ft} {K : List Ce} {k : Nat} {x : Ce} (hx : K[k]? = some x) : AlkI X Y (K.take (k + 1)) ↔ AlkI X Y (K.take k) ∧ ∀ r, cN X r x.lo = cN Y r x.lo := by
  unfold AlkI
  rw [take_snoc hx]
  constructor
  · intro h
    exact ⟨fun y hy => h y (List.mem_append_left _ hy), h x (List.mem_append_right _ (by simp))⟩
  · rintro ⟨h1, h2⟩ y hy
    rcases List.mem_append.1 hy with h | h
    · exact h1 y h
    · rw [List.mem_singleton.1 h]; exact h2
set_option maxHeartbeats 16000000 in
theorem normal_walk {w : World} {px py : Option Addr} {cx cy nx ny : Nat} {X Y : List Ft} (cut : Int) (hx : FIn w ⟨px, cx, X⟩) (hy : FIn w ⟨py, cy, Y⟩) (hnx : nx = X.length) (hny : ny = Y.length) (hlx : nx ≤ 349525) (hly : ny ≤ 349525) :
    Calls Tryz.prog 6 #[.slice px nx cx, .slice py ny cy, .int .i64 cut] w fun e w' => e = .returned (.bool true) ∧ Fr w w' (fun _ => False) := by
  have HX := hide hx
  have HY := hide hy
  have HNX := hide hnx
  have HNY := hide hny
  clear hx hy hnx hny
  go_enter Tryz.func6, Tryz.ntmps6
  go_wp2_with fail
  refine (awake_any _).mono ?_
  rintro e w1 ⟨rfl, f1⟩
  have HF1 := hide f1
  clear f1
  go_wp2_with fail
  refine (norm_one (HX.out.fr HF1.out) HNX.out (by omega)).mono ?_
  rintro e w2 ⟨v2, NX, rfl, hm⟩
  obtain ⟨p2, c2, n2, rfl, hn2, hl2, hi2, ho2, hf2⟩ := hm.take (one_abs HNX.out)
  have HN2 := hide hn2
  have HI2 := hide hi2
  have HO2 := hide ho2
  have HF2 := hide ((HF1.out.trans hf2).mono (Y := fun _ => False) (by simp))
  clear hm hn2 hi2 ho2 hf2 HF1
  go_wp2_with fail
  refine (norm_one (HY.out.fr HF2.out) HNY.out (by omega)).mono ?_
  rintro e w3 ⟨v3, NY, rfl, hm⟩
  obtain ⟨p3, c3, n3, rfl, hn3, hl3, hi3, ho3, hf3⟩ := hm.take (one_abs HNY.out)
  have HN3 := hide hn3
  have HI3 := hide hi3
  have HO3 := hide ho3
  have HI23 := hide (HI2.out.fr hf3)
  have HF3 := hide ((HF2.out.trans hf3).mono (Y := fun _ => False) (by simp))
  clear hm hn3 hi3 ho3 hf3 HF2 HI2
  go_wp2_with fail
  refine (both_any (HX.out.fr HF3.out) (HY.out.fr HF3.out) HNX.out HNY.out (by omega)).mono ?_
  rintro e w4 ⟨p4, c4, n4, rfl, hn4, hi4, f4⟩
  have HN4 := hide hn4
  have HI4 := hide hi4
  have hl4 : n4 ≤ 699050 := by rw [hn4, List.length_append, ← HNX.out, ← HNY.out]; omega
  have HF4 := hide ((HF3.out.trans f4).mono (Y := fun _ => False) (by simp))
  clear hn4 hi4
  go_wp2_with fail
  refine (rcells_any HI4.out HN4.out (by omega)).mono ?_
  rintro e w5 ⟨v5, E, K, rfl, hc5, he5, hlk, hle, f5⟩
  have HC5 := hide hc5
  have HE5 := hide he5
  have HLK := hide hlk
  have HIB := hide (HI23.out.fr ((f4.trans f5).mono (Y := fun _ => False) (by simp)))
  have HIC := hide (HI3.out.fr ((f4.trans f5).mono (Y := fun _ => False) (by simp)))
  have HF5 := hide ((HF4.out.trans f5).mono (Y := fun _ => False) (by simp))
  obtain ⟨p5, c5, hv5, _⟩ := hc5.o.shape
  obtain ⟨n5, hn5⟩ : ∃ n5, n5 = K.length := ⟨_, rfl⟩
  have hl5 : n5 ≤ 1398100 := by omega
  rw [← hn5] at hv5
  have HN5 := hide hn5
  have hro := hc5.o
  rw [hv5] at hro
  have HROW := hide hro.row
  subst hv5
  clear hc5 he5 hlk hle f5 f4 hn5 hro HI23 HI3 HF4 HF3 HI4
  go_wp2_with fail
  go_loopw [9, 28] (fun b i wr => ∃ (k : Nat) (D : Bool), i = .int .i64 (k : Int) ∧ b = .bool D ∧ k ≤ n5 ∧ (D = true ↔ AlkI X Y (K.take k)) ∧ Fr w5 wr (fun _ => False)) (fun _ i _ => n5 - (intOf i).toNat)
  case atStart => exact ⟨0, true, rfl, rfl, Nat.zero_le _, by simp [AlkI], Fr.refl _ _⟩
  case round =>
    rename World => w7
    obtain ⟨k, D, rfl, rfl, hk, hd, hf⟩ := hrel
    have HD := hide hd
    have HF := hide hf
    clear hd hf
    by_cases hlt : k < n5
    · obtain ⟨x, hx⟩ : ∃ x, K[k]? = some x := ⟨_, List.getElem?_eq_getElem (by rw [← HN5.out]; exact hlt)⟩
      have HXX := hide hx
      have HNX5 := hide (alk_next (X := X) (Y := Y) hx)
      obtain ⟨g, off, rfl, _⟩ := HROW.out.block hx
      obtain ⟨c0, c1, c2⟩ := rowK_cells HROW.out HF.out hx
      obtain ⟨w8, h8⟩ : ∃ w8, w8 = w7.alloc (.cells #[.int .i64 x.lo, .int .i64 x.hi, .slice x.p x.R.length x.c] 57) := ⟨_, rfl⟩
      obtain ⟨gb, hgb⟩ : ∃ gb, gb = w7.heap.size := ⟨_, rfl⟩
      have HT8 := hide (show Three w8 gb (.int .i64 x.lo) (.int .i64 x.hi) (.slice x.p x.R.length x.c) by rw [h8, hgb]; exact three_of (heap_alloc_new w7 _))
      have f8 : Fr w7 w8 (fun _ => False) := by rw [h8]; exact Fr.alloc _ _ _
      have HF8 := hide ((HF.out.trans f8).mono (Y := fun _ => False) (by simp))
      have H8 := hide h8
      have HGB := hide hgb
      have t4 := HT8.out.2.2.2
      rw [h8, hgb] at t4
      clear hx h8 hgb f8 HF
      go_wp2_with fail
      rw [← H8.out, ← HGB.out]
      clear c0 c1 c2 t4 H8
      cases D with
      | false =>
        refine wp_region_K (fun _ => true) (fun U : World => Fr (w8.drew) U (fun _ => False)) (by kernel_rfl) ?_
        have hS : (fun U : World => Fr (w8.drew) U (fun _ => False)) w8.drew := Fr.refl _ _
        have D1 := Fr.drew w8 (fun _ => False)
        have HFV := hide ((HF8.out.trans D1).mono (Y := fun _ => False) (by simp))
        have HT := hide (HT8.out.fr D1 (fun h => h))
        clear D1 HT8 HF8
        generalize w8.drew = V at *
        refine wpAnyK_takeTo 0 (some 32) (.bool false) [1, 2, 3, 4, 5, 6, 7, 8, 9, 10, 11, 12] rfl rfl (by kernel_rfl) (by kernel_rfl) (by kernel_rfl) (by kernel_rfl) (fun _ _ _ h => h) hS (Or.inl ⟨rfl, fun w1 hw1 => by go_simp⟩) ?_
        simp only [Act.put, List.setIfInBounds_toArray, List.set_cons_zero, List.set_cons_succ]
        refine wpAnyK_takeTo 1 (some 33) (.bool false) [2, 3, 4, 5, 6, 7, 8, 9, 10, 11, 12] rfl rfl (by kernel_rfl) (by kernel_rfl) (by kernel_rfl) (by kernel_rfl) (fun _ _ _ h => h) hS (Or.inl ⟨rfl, fun w1 hw1 => by go_simp⟩) ?_
        simp only [Act.put, List.setIfInBounds_toArray, List.set_cons_zero, List.set_cons_succ]
        refine wpAnyK_takeTo 2 (some 34) (undef) [5, 9, 10, 11, 12] rfl rfl (by kernel_rfl) (by kernel_rfl) (by kernel_rfl) (by kernel_rfl) (fun _ _ _ h => h) hS (Or.inr ⟨rfl, rfl⟩) ?_
        simp only [Act.put, List.setIfInBounds_toArray, List.set_cons_zero, List.set_cons_succ]
        refine wpAnyK_takeTo 3 (some 35) (undef) [4, 5, 9, 10, 11, 12] rfl rfl (by kernel_rfl) (by kernel_rfl) (by kernel_rfl) (by kernel_rfl) (fun _ _ _ h => h) hS (Or.inr ⟨rfl, rfl⟩) ?_
        simp only [Act.put, List.setIfInBounds_toArray, List.set_cons_zero, List.set_cons_succ]
        refine wpAnyK_takeTo 4 (some 36) (undef) [5, 9, 10, 11, 12] rfl rfl (by kernel_rfl) (by kernel_rfl) (by kernel_rfl) (by kernel_rfl) (fun _ _ _ h => h) hS (Or.inr ⟨rfl, rfl⟩) ?_
        simp only [Act.put, List.setIfInBounds_toArray, List.set_cons_zero, List.set_cons_succ]
        refine wpAnyK_takeTo 5 (some 37) (undef) [9, 10, 11, 12] rfl rfl (by kernel_rfl) (by kernel_rfl) (by kernel_rfl) (by kernel_rfl) (fun _ _ _ h => h) hS (Or.inr ⟨rfl, rfl⟩) ?_
        simp only [Act.put, List.setIfInBounds_toArray, List.set_cons_zero, List.set_cons_succ]
        refine wpAnyK_takeTo 6 (some 38) (undef) [9, 10, 11, 12] rfl rfl (by kernel_rfl) (by kernel_rfl) (by kernel_rfl) (by kernel_rfl) (fun _ _ _ h => h) hS (Or.inr ⟨rfl, rfl⟩) ?_
        simp only [Act.put, List.setIfInBounds_toArray, List.set_cons_zero, List.set_cons_succ]
        refine wpAnyK_takeTo 7 (some 39) (undef) [8, 9, 10, 11, 12] rfl rfl (by kernel_rfl) (by kernel_rfl) (by kernel_rfl) (by kernel_rfl) (fun _ _ _ h => h) hS (Or.inr ⟨rfl, rfl⟩) ?_
        simp only [Act.put, List.setIfInBounds_toArray, List.set_cons_zero, List.set_cons_succ]
        refine wpAnyK_takeTo 8 (some 40) (undef) [9, 10, 11, 12] rfl rfl (by kernel_rfl) (by kernel_rfl) (by kernel_rfl) (by kernel_rfl) (fun _ _ _ h => h) hS (Or.inr ⟨rfl, rfl⟩) ?_
        simp only [Act.put, List.setIfInBounds_toArray, List.set_cons_zero, List.set_cons_succ]
        refine wpAnyK_takeTo 9 (some 41) (undef) [10, 11, 12] rfl rfl (by kernel_rfl) (by kernel_rfl) (by kernel_rfl) (by kernel_rfl) (fun _ _ _ h => h) hS (Or.inr ⟨rfl, rfl⟩) ?_
        simp only [Act.put, List.setIfInBounds_toArray, List.set_cons_zero, List.set_cons_succ]
        refine wpAnyK_takeTo 10 (some 42) (undef) [11, 12] rfl rfl (by kernel_rfl) (by kernel_rfl) (by kernel_rfl) (by kernel_rfl) (fun _ _ _ h => h) hS (Or.inr ⟨rfl, rfl⟩) ?_
        simp only [Act.put, List.setIfInBounds_toArray, List.set_cons_zero, List.set_cons_succ]
        refine wpAnyK_takeTo 11 (some 43) (.bool false) [12] rfl rfl (by kernel_rfl) (by kernel_rfl) (by kernel_rfl) (by kernel_rfl) (fun _ _ _ h => h) hS (Or.inl ⟨rfl, fun w1 hw1 => by go_simp⟩) ?_
        simp only [Act.put, List.setIfInBounds_toArray, List.set_cons_zero, List.set_cons_succ]
        refine wpAnyK_takeTo 12 (some 9) (.bool false) [] rfl rfl (by kernel_rfl) (by kernel_rfl) (by kernel_rfl) (by kernel_rfl) (fun _ _ _ h => h) hS (Or.inl ⟨rfl, fun w1 hw1 => by go_simp⟩) ?_
        simp only [Act.put, List.setIfInBounds_toArray, List.set_cons_zero, List.set_cons_succ]
        refine wpAnyK_done (by kernel_rfl) ?_ _
        clear hS
        have HDF := hide (show ((false = true) ↔ AlkI X Y (K.take (k + 1))) from ⟨fun h => (by cases h), fun h => by
          have h2 := HD.out
          exact h2.2 ((HNX5.out).1 h).1⟩)
        go_wp2
        go_roundw
        case rel => exact ⟨k + 1, false, by go_num, rfl, by omega, HDF.out, HFV.out⟩
        case measure => simp [intOf]; omega
      | true =>
        refine wp_region_K (fun _ => true) (fun U : World => Fr (w8.drew) U (fun _ => False)) (by kernel_rfl) ?_
        have hS : (fun U : World => Fr (w8.drew) U (fun _ => False)) w8.drew := Fr.refl _ _
        have D1 := Fr.drew w8 (fun _ => False)
        have HFV := hide ((HF8.out.trans D1).mono (Y := fun _ => False) (by simp))
        have HT := hide (HT8.out.fr D1 (fun h => h))
        clear D1 HT8 HF8
        generalize w8.drew = V at *
        have HSX := hide (slice_at (HX.out.fr ((HF5.out.trans HFV.out).mono (Y := fun _ => False) (by simp))) HNX.out (by omega) x.lo)
        refine wpAnyK_takeTo 0 (some 32) (.bool true) [1, 2, 3, 4, 5, 6, 7, 8, 9, 10, 11, 12] rfl rfl (by kernel_rfl) (by kernel_rfl) (by kernel_rfl) (by kernel_rfl) (fun _ _ _ h => h) hS (Or.inl ⟨rfl, fun w1 hw1 => by go_simp⟩) ?_
        simp only [Act.put, List.setIfInBounds_toArray, List.set_cons_zero, List.set_cons_succ]
        refine wpAnyK_takeTo 1 (some 33) (.bool true) [2, 3, 4, 5, 6, 7, 8, 9, 10, 11, 12] rfl rfl (by kernel_rfl) (by kernel_rfl) (by kernel_rfl) (by kernel_rfl) (fun _ _ _ h => h) hS (Or.inl ⟨rfl, fun w1 hw1 => by go_simp⟩) ?_
        simp only [Act.put, List.setIfInBounds_toArray, List.set_cons_zero, List.set_cons_succ]
        refine wpAnyK_takeTo 2 (some 34) (.slice px nx cx) [5, 9, 10, 11, 12] rfl rfl (by kernel_rfl) (by kernel_rfl) (by kernel_rfl) (by kernel_rfl) (fun _ _ _ h => h) hS (Or.inl ⟨rfl, fun w1 hw1 => by go_simp⟩) ?_
        simp only [Act.put, List.setIfInBounds_toArray, List.set_cons_zero, List.set_cons_succ]
        refine wpAnyK_takeTo 3 (some 35) (.pointer (some ⟨gb, 0, none⟩)) [4, 5, 9, 10, 11, 12] rfl rfl (by kernel_rfl) (by kernel_rfl) (by kernel_rfl) (by kernel_rfl) (fun _ _ _ h => h) hS (Or.inl ⟨rfl, fun w1 hw1 => by go_simp⟩) ?_
        simp only [Act.put, List.setIfInBounds_toArray, List.set_cons_zero, List.set_cons_succ]
        refine wpAnyK_takeTo 4 (some 36) (.int .i64 x.lo) [5, 9, 10, 11, 12] rfl rfl (by kernel_rfl) (by kernel_rfl) (by kernel_rfl) (by kernel_rfl) (fun _ _ _ h => h) hS (Or.inl ⟨rfl, fun w1 hw1 => by have q0 := (HT.out.fr hw1 (fun h => h)).1; have q1 := (HT.out.fr hw1 (fun h => h)).2.1; have q2 := (HT.out.fr hw1 (fun h => h)).2.2.1; go_simp⟩) ?_
        simp only [Act.put, List.setIfInBounds_toArray, List.set_cons_zero, List.set_cons_succ]
        refine wpAnyK_takeTo 6 (some 38) (.slice py ny cy) [9, 10, 11, 12] rfl rfl (by kernel_rfl) (by kernel_rfl) (by kernel_rfl) (by kernel_rfl) (fun _ _ _ h => h) hS (Or.inl ⟨rfl, fun w1 hw1 => by go_simp⟩) ?_
        simp only [Act.put, List.setIfInBounds_toArray, List.set_cons_zero, List.set_cons_succ]
        refine wpAnyK_takeTo 7 (some 39) (.pointer (some ⟨gb, 0, none⟩)) [8, 9, 10, 11, 12] rfl rfl (by kernel_rfl) (by kernel_rfl) (by kernel_rfl) (by kernel_rfl) (fun _ _ _ h => h) hS (Or.inl ⟨rfl, fun w1 hw1 => by go_simp⟩) ?_
        simp only [Act.put, List.setIfInBounds_toArray, List.set_cons_zero, List.set_cons_succ]
        refine wpAnyK_takeTo 8 (some 40) (.int .i64 x.lo) [9, 10, 11, 12] rfl rfl (by kernel_rfl) (by kernel_rfl) (by kernel_rfl) (by kernel_rfl) (fun _ _ _ h => h) hS (Or.inl ⟨rfl, fun w1 hw1 => by have q0 := (HT.out.fr hw1 (fun h => h)).1; have q1 := (HT.out.fr hw1 (fun h => h)).2.1; have q2 := (HT.out.fr hw1 (fun h => h)).2.2.1; go_simp⟩) ?_
        simp only [Act.put, List.setIfInBounds_toArray, List.set_cons_zero, List.set_cons_succ]
        refine wpAnyK_one (i := 5) (by kernel_rfl) rfl rfl ?_
        refine wp_call_to (some 37) rfl 30 #[.slice px nx cx, .int .i64 x.lo] (by go_simp) HSX.out ?_
        rintro e W2 ⟨pa, na, ca, R, rfl, hna, hla, hra, hpa, hsa, hoa, fa⟩
        have HNA := hide hna
        have HRA := hide hra
        have HPA := hide hpa
        have HSA := hide hsa
        have HOA := hide hoa
        have HV2 := hide fa
        clear hna hra hpa hsa hoa fa HSX
        refine ⟨_, rfl, fun _ => HV2.out, ?_⟩
        simp only [Act.put, List.setIfInBounds_toArray, List.set_cons_zero, List.set_cons_succ]
        have HSY := hide (slice_at (HY.out.fr (((HF5.out.trans HFV.out).trans HV2.out).mono (Y := fun _ => False) (by simp))) HNY.out (by omega) x.lo)
        refine wpAnyK_one (i := 9) (by kernel_rfl) rfl rfl ?_
        refine wp_call_to (some 41) rfl 30 #[.slice py ny cy, .int .i64 x.lo] (by go_simp) HSY.out ?_
        rintro e W3 ⟨pb, nb, cb, S, rfl, hnb, hlb, hrb, hpb, hsb, hob, fb⟩
        have HNB := hide hnb
        have HIFF := hide (rows_same HPA.out HSA.out hpb hsb)
        have HV3 := hide ((HV2.out.trans fb).mono (Y := fun _ => False) (by simp))
        have HSM := hide (samerows_any (c := ca) (d := cb) (HRA.out.fr fb (fun _ _ _ _ h => h)) hrb HNA.out hnb (by omega) (fun x hx => (HOA.out x hx).fr fb (fun _ _ _ h => h)) hob)
        clear hnb hrb hpb hsb hob fb HSY
        refine ⟨_, rfl, fun _ => HV3.out, ?_⟩
        simp only [Act.put, List.setIfInBounds_toArray, List.set_cons_zero, List.set_cons_succ]
        refine wpAnyK_one (i := 10) (by kernel_rfl) rfl rfl ?_
        refine wp_call_to (some 42) rfl 29 #[.slice pa na ca, .slice pb nb cb] (by go_simp) HSM.out ?_
        rintro e W4 ⟨rfl, fc⟩
        have HV4 := hide ((HV3.out.trans fc).mono (Y := fun _ => False) (by simp))
        obtain ⟨D2, hD2⟩ : ∃ D2, D2 = decide (R.map Rw.row = S.map Rw.row) := ⟨_, rfl⟩
        rw [← hD2]
        have HDT := hide (show (D2 = true ↔ AlkI X Y (K.take (k + 1))) by
          rw [hD2, decide_eq_true_iff, HNX5.out, HIFF.out]
          exact ⟨fun h => ⟨HD.out.1 rfl, h⟩, fun h => h.2⟩)
        clear fc hD2 HSM
        refine ⟨_, rfl, fun _ => HV4.out, ?_⟩
        simp only [Act.put, List.setIfInBounds_toArray, List.set_cons_zero, List.set_cons_succ]
        have hS2 : (fun U : World => Fr V U (fun _ => False)) W4 := HV4.out
        refine wpAnyK_takeTo 11 (some 43) (.bool D2) [12] rfl rfl (by kernel_rfl) (by kernel_rfl) (by kernel_rfl) (by kernel_rfl) (fun _ _ _ h => h) hS2 (Or.inl ⟨rfl, fun w1 hw1 => by go_simp⟩) ?_
        simp only [Act.put, List.setIfInBounds_toArray, List.set_cons_zero, List.set_cons_succ]
        refine wpAnyK_takeTo 12 (some 9) (.bool D2) [] rfl rfl (by kernel_rfl) (by kernel_rfl) (by kernel_rfl) (by kernel_rfl) (fun _ _ _ h => h) hS2 (Or.inl ⟨rfl, fun w1 hw1 => by go_simp⟩) ?_
        simp only [Act.put, List.setIfInBounds_toArray, List.set_cons_zero, List.set_cons_succ]
        refine wpAnyK_done (by kernel_rfl) ?_ _
        clear hS hS2
        have HFE := hide ((HFV.out.trans HV4.out).mono (Y := fun _ => False) (by simp))
        go_wp2
        go_roundw
        case rel => exact ⟨k + 1, D2, by go_num, rfl, by omega, HDT.out, HFE.out⟩
        case measure => simp [intOf]; omega
    · obtain rfl : k = n5 := by omega
      have hE : K.take k = K := by rw [HN5.out, List.take_length]
      have hd := HD.out
      rw [hE] at hd
      have HEQ := hide (show decide (NX.map Ft.fa = NY.map Ft.fa) = D by
        have h1 := norm_iff HO2.out HO3.out HE5.out HC5.out HLK.out
        cases D with
        | true => exact decide_eq_true (h1.2 (hd.1 rfl))
        | false => exact decide_eq_false (fun h => by have := hd.2 (h1.1 h); cases this))
      have HI7 := hide (HIB.out.fr HF.out)
      have HJ7 := hide (HIC.out.fr HF.out)
      have HF7 := hide ((HF5.out.trans HF.out).mono (Y := fun _ => False) (by simp))
      clear hE hd HD HF HROW HC5 HIB HIC HF5
      go_wp2_with fail
      refine (same_at HI7.out HJ7.out HN2.out HN3.out (by omega)).mono ?_
      rintro e w8 ⟨rfl, f8⟩
      rw [HEQ.out]
      have HI8 := hide (HI7.out.fr f8)
      have HF8 := hide ((HF7.out.trans f8).mono (Y := fun _ => False) (by simp))
      clear f8 HI7 HJ7 HF7
      go_wp2_with fail
      refine (norm_one HI8.out HN2.out (by omega)).mono ?_
      rintro e w9 ⟨v9, NN, rfl, hm⟩
      obtain ⟨p9, c9, n9, rfl, hn9, hl9, hi9, ho9, hf9⟩ := hm.take (one_abs HN2.out)
      have HN9 := hide hn9
      have HI9 := hide hi9
      have HEQ9 := hide (norm_again HO2.out ho9)
      have HI29 := hide (HI8.out.fr hf9)
      have HF9 := hide ((HF8.out.trans hf9).mono (Y := fun _ => False) (by simp))
      clear hm hn9 hi9 ho9 hf9 HI8 HF8
      go_wp2_with fail
      refine (same_at HI9.out HI29.out HN9.out HN2.out (by omega)).mono ?_
      rintro e wa ⟨rfl, fa⟩
      rw [show decide (NN.map Ft.fa = NX.map Ft.fa) = true from decide_eq_true HEQ9.out]
      have HIA := hide (HI29.out.fr fa)
      have HFA := hide ((HF9.out.trans fa).mono (Y := fun _ => False) (by simp))
      clear fa HI9 HI29 HF9
      go_wp2_with fail
      go_loopw [12, 13] (fun v i wr => ∃ k : Nat, i = .int .i64 ((k : Int) - 1) ∧ k ≤ nx ∧ Own elF wr v (turnL cut (X.drop k).reverse) ∧ (∀ q, v.ownBlock = some q → wa.heap.size ≤ q) ∧ Fr wa wr (fun _ => False)) (fun _ i _ => (intOf i + 1).toNat)
      case atStart => exact ⟨nx, rfl, Nat.le_refl _, by rw [HNX.out, List.drop_length]; exact Own.nil elF _, (by intro q hq; cases hq), Fr.refl _ _⟩
      case round =>
        rename World => wb
        obtain ⟨k', rfl, hk', ho, hb, hf⟩ := hrel
        have HO := hide ho
        have HB := hide hb
        have HF := hide hf
        have HLE := hide (show (turnL cut (X.drop k').reverse).length ≤ 699050 by
          have h1 := turnL_len cut (X.drop k').reverse
          rw [List.length_reverse, List.length_drop] at h1
          have := HNX.out
          omega)
        clear ho hb hf
        cases k' with
        | zero =>
          have hneg : ¬ (0 : Int) ≤ ((0 : Nat) : Int) - 1 := by omega
          have ho := HO.out
          rw [List.drop_zero] at ho
          obtain ⟨aT, cT, hvT, _⟩ := ho.shape
          obtain ⟨nT, hnT⟩ : ∃ nT, nT = (turnL cut X.reverse).length := ⟨_, rfl⟩
          have hlT : nT ≤ 699050 := by rw [hnT]; exact HLE.out
          rw [← hnT] at hvT
          have HNT := hide hnT
          rw [hvT] at ho
          have HFB := hide ((HFA.out.trans HF.out).mono (Y := fun _ => False) (by simp))
          have HIT := hide (show FIn wb ⟨aT, cT, turnL cut X.reverse⟩ from ⟨ho.row, ho.nilc, fun g hg => by
            obtain ⟨f, hf, e1, e2, e3⟩ := turnL_row hg
            rw [e1, e2, e3]
            exact (HX.out.fr HFB.out).ok f (List.mem_reverse.1 hf)⟩)
          have HIB := hide (HIA.out.fr HF.out)
          subst hvT
          clear ho hnT HO HB HF HLE
          go_wp2_with fail
          refine (norm_one HIT.out HNT.out (by omega)).mono ?_
          rintro e wc ⟨vc, NT, rfl, hm⟩
          obtain ⟨pc, cc, nc, rfl, hnc, hlc, hic, hoc, hfc⟩ := hm.take (one_abs HNT.out)
          have HNC := hide hnc
          have HIC2 := hide hic
          have HEQC := hide (norm_turned HO2.out hoc)
          have HIB2 := hide (HIB.out.fr hfc)
          have HFC := hide ((HFB.out.trans hfc).mono (Y := fun _ => False) (by simp))
          clear hm hnc hic hoc hfc HIB HFB
          go_wp2_with fail
          refine (same_at HIC2.out HIB2.out HNC.out HN2.out (by omega)).mono ?_
          rintro e wd ⟨rfl, fd⟩
          rw [show decide (NT.map Ft.fa = NX.map Ft.fa) = true from decide_eq_true HEQC.out]
          have HFD := hide ((HFC.out.trans fd).mono (Y := fun _ => False) (by simp))
          clear fd
          go_wp2_with fail
          go_ret
          exact ⟨rfl, HFD.out⟩
        | succ j =>
          have ej : ((j + 1 : Nat) : Int) - 1 = (j : Int) := by omega
          simp only [ej]
          obtain ⟨f, hf⟩ : ∃ f, X[j]? = some f := ⟨_, List.getElem?_eq_getElem (by rw [← HNX.out]; omega)⟩
          have HTN := hide (turn_next (cut := cut) hf)
          have HFB0 := hide ((HFA.out.trans HF.out).mono (Y := fun _ => False) (by simp))
          obtain ⟨g, off, rfl, hg, c0, c1, c2⟩ := rowF_at (HX.out.row.fr HFB0.out (fun _ _ _ _ h => h)) hf
          obtain ⟨nr, hnr⟩ : ∃ nr, nr = f.row.length := ⟨_, rfl⟩
          rw [← hnr] at c0
          have HNR := hide hnr
          obtain ⟨w8, h8⟩ : ∃ w8, w8 = wb.alloc (.cells #[.slice f.p nr f.c, .int .i64 f.lo, .int .i64 f.hi] 59) := ⟨_, rfl⟩
          obtain ⟨gb, hgb⟩ : ∃ gb, gb = wb.heap.size := ⟨_, rfl⟩
          have HT8 := hide (show Three w8 gb (.slice f.p nr f.c) (.int .i64 f.lo) (.int .i64 f.hi) by rw [h8, hgb]; exact three_of (heap_alloc_new wb _))
          have f8 : Fr wb w8 (fun _ => False) := by rw [h8]; exact Fr.alloc _ _ _
          have HF8 := hide ((HF.out.trans f8).mono (Y := fun _ => False) (by simp))
          have HO8 := hide (HO.out.fr f8 (fun _ _ h => h))
          have H8 := hide h8
          have HGB := hide hgb
          have t0 := HT8.out.1
          have t1 := HT8.out.2.1
          have t2 := HT8.out.2.2.1
          have t4 := HT8.out.2.2.2
          rw [h8, hgb] at t0 t1 t2 t4
          have HRT := hide (rright_any ⟨f.lo, f.hi⟩)
          unfold perV at HRT
          simp only at HRT
          clear hf hg hnr h8 hgb f8 HF HO
          go_wp2_with fail
          rw [← H8.out, ← HGB.out]
          clear t0 t1 t2 t4 c0 c1 c2 H8
          refine (HRT.out w8).mono ?_
          rintro e w9 ⟨rfl, f9⟩
          have HF9' := hide ((HF8.out.trans f9).mono (Y := fun _ => False) (by simp))
          have HO9 := hide (HO8.out.fr f9 (fun _ _ h => h))
          have HT9 := hide (HT8.out.fr f9 (fun h => h))
          have t0 := HT9.out.1
          have t1 := HT9.out.2.1
          have t2 := HT9.out.2.2.1
          have t4 := HT9.out.2.2.2
          clear f9 HF8 HO8 HT8
          have H19 : ∀ (hno : ¬ (rightB ⟨f.lo, f.hi⟩ = true ∧ f.lo < cut ∧ cut < f.hi)), turnF cut f = [f] := fun hno => by unfold turnF; rw [if_neg hno]
          by_cases hr : rightB ⟨f.lo, f.hi⟩ = true
          · rw [hr]
            by_cases h1 : f.lo < cut
            · by_cases h2 : cut < f.hi
              · have HTE := hide (show turnF cut f = [⟨f.p, f.c, f.row, f.lo, cut⟩, ⟨f.p, f.c, f.row, cut, f.hi⟩] by unfold turnF; rw [if_pos ⟨hr, h1, h2⟩])
                clear H19 hr
                go_wp2_with (refine wpList_push elF rfl (.tmp 86) (.tmp 103) rfl u12 _ rfl HO9.out [⟨f.p, f.c, f.row, f.lo, cut⟩, ⟨f.p, f.c, f.row, cut, f.hi⟩] _ 2 2 rfl rfl (by first | rfl | simp) (by have := HLE.out; simp only [List.length_cons, List.length_nil]; omega) _ (by rw [HNR.out]; rfl) ?_; intro v' wz ho hf hr2; have HOA := hide ho; have HFZ := hide hf; have HRA := hide hr2; clear ho hf hr2)
                go_roundw
                case rel => exact ⟨j, by go_num, by omega, by rw [HTN.out, HTE.out]; exact HOA.out, HRA.out.le HF9'.out.size HB.out, fr_mid HF9'.out HB.out HFZ.out⟩
                case measure => simp [intOf]
              · have HTE := hide (H19 (fun h => h2 h.2.2))
                clear H19 hr
                go_wp2_with (refine wpList_push elF rfl (.tmp 105) (.tmp 107) rfl u12 _ rfl HO9.out [f] _ 1 1 rfl rfl (by first | rfl | simp) (by have := HLE.out; simp only [List.length_singleton]; omega) _ (by rw [HNR.out]; rfl) ?_; intro v' wz ho hf hr2; have HOA := hide ho; have HFZ := hide hf; have HRA := hide hr2; clear ho hf hr2)
                go_roundw
                case rel => exact ⟨j, by go_num, by omega, by rw [HTN.out, HTE.out]; exact HOA.out, HRA.out.le HF9'.out.size HB.out, fr_mid HF9'.out HB.out HFZ.out⟩
                case measure => simp [intOf]
            · have HTE := hide (H19 (fun h => h1 h.2.1))
              clear H19 hr
              go_wp2_with (refine wpList_push elF rfl (.tmp 105) (.tmp 107) rfl u12 _ rfl HO9.out [f] _ 1 1 rfl rfl (by first | rfl | simp) (by have := HLE.out; simp only [List.length_singleton]; omega) _ (by rw [HNR.out]; rfl) ?_; intro v' wz ho hf hr2; have HOA := hide ho; have HFZ := hide hf; have HRA := hide hr2; clear ho hf hr2)
              go_roundw
              case rel => exact ⟨j, by go_num, by omega, by rw [HTN.out, HTE.out]; exact HOA.out, HRA.out.le HF9'.out.size HB.out, fr_mid HF9'.out HB.out HFZ.out⟩
              case measure => simp [intOf]
          · have hr' : rightB ⟨f.lo, f.hi⟩ = false := by simpa using hr
            rw [hr']
            have HTE := hide (H19 (fun h => hr h.1))
            clear H19 hr hr'
            go_wp2_with (refine wpList_push elF rfl (.tmp 105) (.tmp 107) rfl u12 _ rfl HO9.out [f] _ 1 1 rfl rfl (by first | rfl | simp) (by have := HLE.out; simp only [List.length_singleton]; omega) _ (by rw [HNR.out]; rfl) ?_; intro v' wz ho hf hr2; have HOA := hide ho; have HFZ := hide hf; have HRA := hide hr2; clear ho hf hr2)
            go_roundw
            case rel => exact ⟨j, by go_num, by omega, by rw [HTN.out, HTE.out]; exact HOA.out, HRA.out.le HF9'.out.size HB.out, fr_mid HF9'.out HB.out HFZ.out⟩
            case measure => simp [intOf]
end Go.Proofs.YtlapifncplbcnaaGreat
