/- The canonical form, looked at. -/
import Derived.Test.YtlapifncplbcnaaGreatCt
namespace Go.Proofs.YtlapifncplbcnaaGreat
open Go.RowKit Go.Sort Go.Shelf
set_option maxRecDepth 100000
set_option linter.unusedVariables false
set_option linter.unusedSimpArgs false

/-- In the canonical form. -/
structure CanL (L : List Ft) : Prop where
  right : ∀ f ∈ L, rightB ⟨f.lo, f.hi⟩ = true
  step : ∀ i a b, L[i]? = some a → L[i + 1]? = some b → ¬ 0 < cmpL a.row b.row ∧ (a.row = b.row → a.hi < b.lo)
/-- What is coalesced is. -/
theorem Co.can {S : List St} {F : List Ft} (h : Co S (F.map Ft.fa)) (hS : Rts S) : CanL F := by
  refine ⟨fun f hf => ?_, fun i a b ha hb => ?_⟩
  · have hf' : f.fa ∈ F.map Ft.fa := List.mem_map.2 ⟨f, hf, rfl⟩
    have hm : f.fa.iv ∈ fam f.fa.row (F.map Ft.fa) := List.mem_map.2 ⟨f.fa, List.mem_filter.2 ⟨hf', by simp⟩, rfl⟩
    have hlt : f.lo < f.hi := (h.nf.lam f.row).1 _ hm
    have key : ∀ t, f.lo ≤ t → t < f.hi → ∃ s ∈ S, s.lo ≤ t ∧ t < s.hi := by
      intro t h1 h2
      have hp : 0 < cntF (F.map Ft.fa) f.row t := cntI_pos.2 ⟨_, hm, h1, h2⟩
      have h3 := h.cnt f.row t
      have h4 : 0 < sumR S f.row t := by
        by_cases c : 0 < sumR S f.row t
        · exact c
        · rw [if_neg c] at h3; omega
      exact sumR_pos h4
    obtain ⟨s1, h1, h2⟩ := key f.lo (by omega) hlt
    obtain ⟨s2, h3, h4⟩ := key (f.hi - 1) (by omega) (by omega)
    have k1 := hS s1 h1
    have k2 := hS s2 h3
    rw [rightB_iff]
    unfold Right
    simp only
    omega
  · obtain ⟨hil, ea⟩ := List.getElem?_eq_some_iff.1 ha
    obtain ⟨hjl, eb⟩ := List.getElem?_eq_some_iff.1 hb
    have hord : ordA a.fa b.fa ≤ 0 := by
      have h1 := List.pairwise_iff_getElem.1 h.nf.srt i (i + 1) (by simpa using hil) (by simpa using hjl) (by omega)
      simpa [ea, eb] using h1
    have hc : ¬ 0 < cmpL a.row b.row := by
      intro hp
      unfold ordA lex at hord
      simp only at hord
      have e1 : a.fa.row = a.row := rfl
      have e2 : b.fa.row = b.row := rfl
      rw [e1, e2, if_neg (by omega)] at hord
      omega
    refine ⟨hc, fun hrow => ?_⟩
    -- two facts of one row: apart, for they are never there together
    obtain ⟨A, B, hAB⟩ : ∃ A B, F = A ++ a :: b :: B := by
      refine ⟨F.take i, F.drop (i + 2), ?_⟩
      have e1 : F = F.take i ++ F.drop i := (List.take_append_drop i F).symm
      rw [List.drop_eq_getElem_cons hil, ea, List.drop_eq_getElem_cons hjl, eb] at e1
      exact e1
    have hfam : fam a.row (F.map Ft.fa) = fam a.row (A.map Ft.fa) ++ a.fa.iv :: b.fa.iv :: fam a.row (B.map Ft.fa) := by
      rw [hAB, List.map_append, fam_append]
      congr 1
      unfold fam
      rw [List.map_cons, List.map_cons, List.filter_cons, if_pos (by simp [Ft.fa]), List.filter_cons, if_pos (by simp [Ft.fa, hrow])]
      rfl
    have hlam := h.nf.lam a.row
    have ham : a.fa.iv ∈ fam a.row (F.map Ft.fa) := by rw [hfam]; simp
    have hbm : b.fa.iv ∈ fam a.row (F.map Ft.fa) := by rw [hfam]; simp
    have hla : a.lo < a.hi := hlam.1 _ ham
    have hlb : b.lo < b.hi := hlam.1 _ hbm
    have hlo : a.lo ≤ b.lo := by
      unfold ordA lex at hord
      simp only at hord
      have e1 : cmpL a.fa.row b.fa.row = 0 := cmpL_zero.2 hrow
      rw [if_pos e1] at hord
      by_cases c : a.lo ≤ b.lo
      · exact c
      · have e2 : cmpI a.fa.lo b.fa.lo = 1 := by
          show (if a.lo < b.lo then (-1 : Int) else if b.lo < a.lo then 1 else 0) = 1
          rw [if_neg (show ¬ a.lo < b.lo by omega), if_pos (show b.lo < a.lo by omega)]
        rw [e2, if_neg (by decide)] at hord
        omega
    have hone : ∀ t, cntI (fam a.row (F.map Ft.fa)) t ≤ 1 := by
      intro t
      have h1 := h.cnt a.row t
      unfold cntF at h1
      split at h1 <;> omega
    have hcp : Compat a.fa.iv b.fa.iv := hlam.two ham hbm
    unfold Compat at hcp
    have e1 : a.fa.iv.lo = a.lo := rfl
    have e2 : a.fa.iv.hi = a.hi := rfl
    have e3 : b.fa.iv.lo = b.lo := rfl
    have e4 : b.fa.iv.hi = b.hi := rfl
    rw [e1, e2, e3, e4] at hcp
    by_cases c : a.hi < b.lo
    · exact c
    · exfalso
      have h2 := hone b.lo
      rw [hfam, cntI_append] at h2
      have e5 : cntI (a.fa.iv :: b.fa.iv :: fam a.row (B.map Ft.fa)) b.lo = 2 + cntI (fam a.row (B.map Ft.fa)) b.lo := by
        unfold cntI
        rw [List.countP_cons, List.countP_cons]
        have k1 : a.fa.iv.at b.lo = true := by simp only [Iv.at, decide_eq_true_eq]; rw [e1, e2]; omega
        have k2 : b.fa.iv.at b.lo = true := by simp only [Iv.at, decide_eq_true_eq]; rw [e3, e4]; omega
        rw [k1, k2]
        simp
        omega
      omega
set_option maxHeartbeats 16000000 in
theorem canonical_any {w : World} {p : Option Addr} {c n : Nat} {L : List Ft} (hx : FIn w ⟨p, c, L⟩) (hn : n = L.length) (hl : n ≤ 549755813888) (hc : CanL L) :
    Calls Tryz.prog 35 #[.slice p n c] w fun e w' => e = .returned (.bool true) ∧ Fr w w' (fun _ => False) := by
  have HX := hide hx
  have HN := hide hn
  have HC := hide hc
  have HRI := hide rright_any
  unfold perV at HRI
  clear hx hn hc
  go_enter Tryz.func35, Tryz.ntmps35
  go_wp2_with fail
  go_loopw [7] (fun i wr => ∃ k : Nat, k ≤ n ∧ i = .int .i64 (k : Int) ∧ Fr w wr (fun _ => False)) (fun i _ => n - (intOf i).toNat)
  case atStart => exact ⟨0, by omega, rfl, Fr.refl _ _⟩
  case round =>
    rename World => w7
    obtain ⟨k, hk, rfl, hf⟩ := hrel
    have HF := hide hf
    clear hf
    by_cases hlt : k < n
    · obtain ⟨f, hf⟩ : ∃ f, L[k]? = some f := ⟨_, List.getElem?_eq_getElem (by rw [← HN.out]; exact hlt)⟩
      have HFF := hide hf
      have HOK := hide (HC.out.right f (List.mem_of_getElem? hf))
      obtain ⟨g, off, rfl, hg, c0, c1, c2⟩ := rowF_at (HX.out.row.fr HF.out (fun _ _ _ _ h => h)) hf
      obtain ⟨w8, h8⟩ : ∃ w8, w8 = w7.alloc (.cells #[.slice f.p f.row.length f.c, .int .i64 f.lo, .int .i64 f.hi] 59) := ⟨_, rfl⟩
      obtain ⟨gb, hgb⟩ : ∃ gb, gb = w7.heap.size := ⟨_, rfl⟩
      have HT8 := hide (show Three w8 gb (.slice f.p f.row.length f.c) (.int .i64 f.lo) (.int .i64 f.hi) by rw [h8, hgb]; exact three_of (heap_alloc_new w7 _))
      have f8 : Fr w7 w8 (fun _ => False) := by rw [h8]; exact Fr.alloc _ _ _
      have HF8 := hide ((HF.out.trans f8).mono (Y := fun _ => False) (by simp))
      have H8 := hide h8
      have HGB := hide hgb
      have t4 := HT8.out.2.2.2
      rw [h8, hgb] at t4
      clear hf hg h8 hgb f8 HF
      by_cases hk0 : k = 0
      · subst hk0
        simp only [Nat.zero_mul, Nat.add_zero] at c0 c1 c2
        go_wp2_with fail
        rw [← H8.out, ← HGB.out]
        clear c0 c1 c2 t4 H8
        refine wp_region_K (fun _ => true) (fun U : World => Fr (w8.drew) U (fun _ => False)) (by kernel_rfl) ?_
        have hS : (fun U : World => Fr (w8.drew) U (fun _ => False)) w8.drew := Fr.refl _ _
        have D1 := Fr.drew w8 (fun _ => False)
        have HF9 := hide ((HF8.out.trans D1).mono (Y := fun _ => False) (by simp))
        have HT := hide (HT8.out.fr D1 (fun h => h))
        clear D1 HT8 HF8
        generalize w8.drew = V at *
        refine wpAnyK_takeTo 0 (some 12) (.pointer (some ⟨gb, 1, none⟩)) [1, 2, 3, 4, 5, 6, 7, 8, 9, 10, 11, 12, 13, 14, 15, 16, 17, 18, 19] rfl rfl (by kernel_rfl) (by kernel_rfl) (by kernel_rfl) (by kernel_rfl) (fun _ _ _ h => h) hS (Or.inl ⟨rfl, fun w1 hw1 => by go_simp⟩) ?_
        simp only [Act.put, List.setIfInBounds_toArray, List.set_cons_zero, List.set_cons_succ]
        refine wpAnyK_takeTo 1 (some 13) (.agg #[.int .i64 f.lo, .int .i64 f.hi]) [2, 3, 4, 5, 6, 7, 8, 9, 10, 11, 12, 13, 14, 15, 16, 17, 18, 19] rfl rfl (by kernel_rfl) (by kernel_rfl) (by kernel_rfl) (by kernel_rfl) (fun _ _ _ h => h) hS (Or.inl ⟨rfl, fun w1 hw1 => by have q0 := (HT.out.fr hw1 (fun h => h)).1; have q1 := (HT.out.fr hw1 (fun h => h)).2.1; have q2 := (HT.out.fr hw1 (fun h => h)).2.2.1; go_simp⟩) ?_
        simp only [Act.put, List.setIfInBounds_toArray, List.set_cons_zero, List.set_cons_succ]
        refine wpAnyK_one (i := 2) (by kernel_rfl) rfl rfl ?_
        refine wp_call_to (some 14) rfl 38 #[.agg #[.int .i64 f.lo, .int .i64 f.hi]] (by go_simp) (HRI.out ⟨f.lo, f.hi⟩ V) ?_
        rintro e W2 ⟨rfl, f2⟩
        have HV2 := hide f2
        rw [HOK.out]
        clear f2
        refine ⟨_, rfl, fun _ => HV2.out, ?_⟩
        simp only [Act.put, List.setIfInBounds_toArray, List.set_cons_zero, List.set_cons_succ]
        have hS2 : (fun U : World => Fr V U (fun _ => False)) W2 := HV2.out
        refine wpAnyK_takeTo 3 (some 15) (.bool false) [4, 5, 6, 7, 8, 9, 10, 11, 12, 13, 14, 15, 16, 17, 18, 19] rfl rfl (by kernel_rfl) (by kernel_rfl) (by kernel_rfl) (by kernel_rfl) (fun _ _ _ h => h) hS2 (Or.inl ⟨rfl, fun w1 hw1 => by go_simp⟩) ?_
        simp only [Act.put, List.setIfInBounds_toArray, List.set_cons_zero, List.set_cons_succ]
        refine wpAnyK_takeTo 4 (some 16) (.bool false) [5, 6, 7, 8, 9, 10, 11, 12, 13, 14, 15, 16, 17, 18, 19] rfl rfl (by kernel_rfl) (by kernel_rfl) (by kernel_rfl) (by kernel_rfl) (fun _ _ _ h => h) hS2 (Or.inl ⟨rfl, fun w1 hw1 => by go_simp⟩) ?_
        simp only [Act.put, List.setIfInBounds_toArray, List.set_cons_zero, List.set_cons_succ]
        refine wpAnyK_takeTo 5 (some 17) (.int .i64 0) [6, 7, 8, 9, 10, 11, 12, 13, 14, 15, 16, 17, 18, 19] rfl rfl (by kernel_rfl) (by kernel_rfl) (by kernel_rfl) (by kernel_rfl) (fun _ _ _ h => h) hS2 (Or.inl ⟨rfl, fun w1 hw1 => by go_simp⟩) ?_
        simp only [Act.put, List.setIfInBounds_toArray, List.set_cons_zero, List.set_cons_succ]
        refine wpAnyK_takeTo 6 (some 18) (.bool false) [7, 8, 9, 10, 11, 12, 13, 14, 15, 16, 17, 18, 19] rfl rfl (by kernel_rfl) (by kernel_rfl) (by kernel_rfl) (by kernel_rfl) (fun _ _ _ h => h) hS2 (Or.inl ⟨rfl, fun w1 hw1 => by go_simp⟩) ?_
        simp only [Act.put, List.setIfInBounds_toArray, List.set_cons_zero, List.set_cons_succ]
        refine wpAnyK_takeTo 7 (some 19) (.bool false) [8, 9, 10, 11, 12, 13, 14, 15, 16, 17, 18, 19] rfl rfl (by kernel_rfl) (by kernel_rfl) (by kernel_rfl) (by kernel_rfl) (fun _ _ _ h => h) hS2 (Or.inl ⟨rfl, fun w1 hw1 => by go_simp⟩) ?_
        simp only [Act.put, List.setIfInBounds_toArray, List.set_cons_zero, List.set_cons_succ]
        refine wpAnyK_takeTo 8 (some 20) (undef) [11, 12, 13, 16, 17, 18, 19] rfl rfl (by kernel_rfl) (by kernel_rfl) (by kernel_rfl) (by kernel_rfl) (fun _ _ _ h => h) hS2 (Or.inr ⟨rfl, rfl⟩) ?_
        simp only [Act.put, List.setIfInBounds_toArray, List.set_cons_zero, List.set_cons_succ]
        refine wpAnyK_takeTo 9 (some 21) (undef) [10, 11, 12, 13, 16, 17, 18, 19] rfl rfl (by kernel_rfl) (by kernel_rfl) (by kernel_rfl) (by kernel_rfl) (fun _ _ _ h => h) hS2 (Or.inr ⟨rfl, rfl⟩) ?_
        simp only [Act.put, List.setIfInBounds_toArray, List.set_cons_zero, List.set_cons_succ]
        refine wpAnyK_takeTo 10 (some 22) (undef) [11, 12, 13, 16, 17, 18, 19] rfl rfl (by kernel_rfl) (by kernel_rfl) (by kernel_rfl) (by kernel_rfl) (fun _ _ _ h => h) hS2 (Or.inr ⟨rfl, rfl⟩) ?_
        simp only [Act.put, List.setIfInBounds_toArray, List.set_cons_zero, List.set_cons_succ]
        refine wpAnyK_takeTo 11 (some 23) (undef) [12, 13, 16, 17, 18, 19] rfl rfl (by kernel_rfl) (by kernel_rfl) (by kernel_rfl) (by kernel_rfl) (fun _ _ _ h => h) hS2 (Or.inr ⟨rfl, rfl⟩) ?_
        simp only [Act.put, List.setIfInBounds_toArray, List.set_cons_zero, List.set_cons_succ]
        refine wpAnyK_takeTo 12 (some 24) (undef) [13, 16, 17, 18, 19] rfl rfl (by kernel_rfl) (by kernel_rfl) (by kernel_rfl) (by kernel_rfl) (fun _ _ _ h => h) hS2 (Or.inr ⟨rfl, rfl⟩) ?_
        simp only [Act.put, List.setIfInBounds_toArray, List.set_cons_zero, List.set_cons_succ]
        refine wpAnyK_takeTo 13 (some 25) (undef) [16, 17, 18, 19] rfl rfl (by kernel_rfl) (by kernel_rfl) (by kernel_rfl) (by kernel_rfl) (fun _ _ _ h => h) hS2 (Or.inr ⟨rfl, rfl⟩) ?_
        simp only [Act.put, List.setIfInBounds_toArray, List.set_cons_zero, List.set_cons_succ]
        refine wpAnyK_takeTo 14 (some 26) (undef) [15, 16, 17, 18, 19] rfl rfl (by kernel_rfl) (by kernel_rfl) (by kernel_rfl) (by kernel_rfl) (fun _ _ _ h => h) hS2 (Or.inr ⟨rfl, rfl⟩) ?_
        simp only [Act.put, List.setIfInBounds_toArray, List.set_cons_zero, List.set_cons_succ]
        refine wpAnyK_takeTo 15 (some 27) (undef) [16, 17, 18, 19] rfl rfl (by kernel_rfl) (by kernel_rfl) (by kernel_rfl) (by kernel_rfl) (fun _ _ _ h => h) hS2 (Or.inr ⟨rfl, rfl⟩) ?_
        simp only [Act.put, List.setIfInBounds_toArray, List.set_cons_zero, List.set_cons_succ]
        refine wpAnyK_takeTo 16 (some 28) (undef) [17, 18, 19] rfl rfl (by kernel_rfl) (by kernel_rfl) (by kernel_rfl) (by kernel_rfl) (fun _ _ _ h => h) hS2 (Or.inr ⟨rfl, rfl⟩) ?_
        simp only [Act.put, List.setIfInBounds_toArray, List.set_cons_zero, List.set_cons_succ]
        refine wpAnyK_takeTo 17 (some 29) (undef) [18, 19] rfl rfl (by kernel_rfl) (by kernel_rfl) (by kernel_rfl) (by kernel_rfl) (fun _ _ _ h => h) hS2 (Or.inr ⟨rfl, rfl⟩) ?_
        simp only [Act.put, List.setIfInBounds_toArray, List.set_cons_zero, List.set_cons_succ]
        refine wpAnyK_takeTo 18 (some 30) (.bool false) [19] rfl rfl (by kernel_rfl) (by kernel_rfl) (by kernel_rfl) (by kernel_rfl) (fun _ _ _ h => h) hS2 (Or.inl ⟨rfl, fun w1 hw1 => by go_simp⟩) ?_
        simp only [Act.put, List.setIfInBounds_toArray, List.set_cons_zero, List.set_cons_succ]
        refine wpAnyK_takeTo 19 (some 31) (.bool false) [] rfl rfl (by kernel_rfl) (by kernel_rfl) (by kernel_rfl) (by kernel_rfl) (fun _ _ _ h => h) hS2 (Or.inl ⟨rfl, fun w1 hw1 => by go_simp⟩) ?_
        simp only [Act.put, List.setIfInBounds_toArray, List.set_cons_zero, List.set_cons_succ]
        refine wpAnyK_done (by kernel_rfl) ?_ _
        clear hS hS2
        go_wp2_with fail
        refine wp_region_K (fun _ => true) (fun U : World => Fr (W2.drew) U (fun _ => False)) (by kernel_rfl) ?_
        have hS : (fun U : World => Fr (W2.drew) U (fun _ => False)) W2.drew := Fr.refl _ _
        have D1 := Fr.drew W2 (fun _ => False)
        have HF10 := hide (((HF9.out.trans HV2.out).trans D1).mono (Y := fun _ => False) (by simp))
        clear D1
        generalize W2.drew = V3 at *
        refine wpAnyK_takeTo 0 (some 32) (.int .i64 0) [1, 2, 3, 4, 5, 6, 7, 8, 9, 10, 11, 12, 13, 14, 15, 16, 17, 18, 19, 20, 21, 22, 23, 24, 25] rfl rfl (by kernel_rfl) (by kernel_rfl) (by kernel_rfl) (by kernel_rfl) (fun _ _ _ h => h) hS (Or.inl ⟨rfl, fun w1 hw1 => by go_simp⟩) ?_
        simp only [Act.put, List.setIfInBounds_toArray, List.set_cons_zero, List.set_cons_succ]
        refine wpAnyK_takeTo 1 (some 33) (.bool false) [2, 3, 4, 5, 6, 7, 8, 9, 10, 11, 12, 13, 14, 15, 16, 17, 18, 19, 20, 21, 22, 23, 24, 25] rfl rfl (by kernel_rfl) (by kernel_rfl) (by kernel_rfl) (by kernel_rfl) (fun _ _ _ h => h) hS (Or.inl ⟨rfl, fun w1 hw1 => by go_simp⟩) ?_
        simp only [Act.put, List.setIfInBounds_toArray, List.set_cons_zero, List.set_cons_succ]
        refine wpAnyK_takeTo 2 (some 34) (.bool false) [3, 4, 5, 6, 7, 8, 9, 10, 11, 12, 13, 14, 15, 16, 17, 18, 19, 20, 21, 22, 23, 24, 25] rfl rfl (by kernel_rfl) (by kernel_rfl) (by kernel_rfl) (by kernel_rfl) (fun _ _ _ h => h) hS (Or.inl ⟨rfl, fun w1 hw1 => by go_simp⟩) ?_
        simp only [Act.put, List.setIfInBounds_toArray, List.set_cons_zero, List.set_cons_succ]
        refine wpAnyK_takeTo 3 (some 35) (undef) [6, 7, 8, 11, 12, 13, 14, 15, 16, 17, 18, 19, 20, 21, 22, 23, 24, 25] rfl rfl (by kernel_rfl) (by kernel_rfl) (by kernel_rfl) (by kernel_rfl) (fun _ _ _ h => h) hS (Or.inr ⟨rfl, rfl⟩) ?_
        simp only [Act.put, List.setIfInBounds_toArray, List.set_cons_zero, List.set_cons_succ]
        refine wpAnyK_takeTo 4 (some 36) (undef) [5, 6, 7, 8, 11, 12, 13, 14, 15, 16, 17, 18, 19, 20, 21, 22, 23, 24, 25] rfl rfl (by kernel_rfl) (by kernel_rfl) (by kernel_rfl) (by kernel_rfl) (fun _ _ _ h => h) hS (Or.inr ⟨rfl, rfl⟩) ?_
        simp only [Act.put, List.setIfInBounds_toArray, List.set_cons_zero, List.set_cons_succ]
        refine wpAnyK_takeTo 5 (some 37) (undef) [6, 7, 8, 11, 12, 13, 14, 15, 16, 17, 18, 19, 20, 21, 22, 23, 24, 25] rfl rfl (by kernel_rfl) (by kernel_rfl) (by kernel_rfl) (by kernel_rfl) (fun _ _ _ h => h) hS (Or.inr ⟨rfl, rfl⟩) ?_
        simp only [Act.put, List.setIfInBounds_toArray, List.set_cons_zero, List.set_cons_succ]
        refine wpAnyK_takeTo 6 (some 38) (undef) [7, 8, 11, 12, 13, 14, 15, 16, 17, 18, 19, 20, 21, 22, 23, 24, 25] rfl rfl (by kernel_rfl) (by kernel_rfl) (by kernel_rfl) (by kernel_rfl) (fun _ _ _ h => h) hS (Or.inr ⟨rfl, rfl⟩) ?_
        simp only [Act.put, List.setIfInBounds_toArray, List.set_cons_zero, List.set_cons_succ]
        refine wpAnyK_takeTo 7 (some 39) (undef) [8, 11, 12, 13, 14, 15, 16, 17, 18, 19, 20, 21, 22, 23, 24, 25] rfl rfl (by kernel_rfl) (by kernel_rfl) (by kernel_rfl) (by kernel_rfl) (fun _ _ _ h => h) hS (Or.inr ⟨rfl, rfl⟩) ?_
        simp only [Act.put, List.setIfInBounds_toArray, List.set_cons_zero, List.set_cons_succ]
        refine wpAnyK_takeTo 8 (some 40) (undef) [11, 12, 13, 14, 15, 16, 17, 18, 19, 20, 21, 22, 23, 24, 25] rfl rfl (by kernel_rfl) (by kernel_rfl) (by kernel_rfl) (by kernel_rfl) (fun _ _ _ h => h) hS (Or.inr ⟨rfl, rfl⟩) ?_
        simp only [Act.put, List.setIfInBounds_toArray, List.set_cons_zero, List.set_cons_succ]
        refine wpAnyK_takeTo 9 (some 41) (undef) [10, 11, 12, 13, 14, 15, 16, 17, 18, 19, 20, 21, 22, 23, 24, 25] rfl rfl (by kernel_rfl) (by kernel_rfl) (by kernel_rfl) (by kernel_rfl) (fun _ _ _ h => h) hS (Or.inr ⟨rfl, rfl⟩) ?_
        simp only [Act.put, List.setIfInBounds_toArray, List.set_cons_zero, List.set_cons_succ]
        refine wpAnyK_takeTo 10 (some 42) (undef) [11, 12, 13, 14, 15, 16, 17, 18, 19, 20, 21, 22, 23, 24, 25] rfl rfl (by kernel_rfl) (by kernel_rfl) (by kernel_rfl) (by kernel_rfl) (fun _ _ _ h => h) hS (Or.inr ⟨rfl, rfl⟩) ?_
        simp only [Act.put, List.setIfInBounds_toArray, List.set_cons_zero, List.set_cons_succ]
        refine wpAnyK_takeTo 11 (some 43) (undef) [12, 13, 14, 15, 16, 17, 18, 19, 20, 21, 22, 23, 24, 25] rfl rfl (by kernel_rfl) (by kernel_rfl) (by kernel_rfl) (by kernel_rfl) (fun _ _ _ h => h) hS (Or.inr ⟨rfl, rfl⟩) ?_
        simp only [Act.put, List.setIfInBounds_toArray, List.set_cons_zero, List.set_cons_succ]
        refine wpAnyK_takeTo 12 (some 44) (.bool false) [13, 14, 15, 16, 17, 18, 19, 20, 21, 22, 23, 24, 25] rfl rfl (by kernel_rfl) (by kernel_rfl) (by kernel_rfl) (by kernel_rfl) (fun _ _ _ h => h) hS (Or.inl ⟨rfl, fun w1 hw1 => by go_simp⟩) ?_
        simp only [Act.put, List.setIfInBounds_toArray, List.set_cons_zero, List.set_cons_succ]
        refine wpAnyK_takeTo 13 (some 45) (.bool false) [14, 15, 16, 17, 18, 19, 20, 21, 22, 23, 24, 25] rfl rfl (by kernel_rfl) (by kernel_rfl) (by kernel_rfl) (by kernel_rfl) (fun _ _ _ h => h) hS (Or.inl ⟨rfl, fun w1 hw1 => by go_simp⟩) ?_
        simp only [Act.put, List.setIfInBounds_toArray, List.set_cons_zero, List.set_cons_succ]
        refine wpAnyK_takeTo 14 (some 46) (undef) [17, 18, 19, 20, 24, 25] rfl rfl (by kernel_rfl) (by kernel_rfl) (by kernel_rfl) (by kernel_rfl) (fun _ _ _ h => h) hS (Or.inr ⟨rfl, rfl⟩) ?_
        simp only [Act.put, List.setIfInBounds_toArray, List.set_cons_zero, List.set_cons_succ]
        refine wpAnyK_takeTo 15 (some 47) (undef) [16, 17, 18, 19, 20, 24, 25] rfl rfl (by kernel_rfl) (by kernel_rfl) (by kernel_rfl) (by kernel_rfl) (fun _ _ _ h => h) hS (Or.inr ⟨rfl, rfl⟩) ?_
        simp only [Act.put, List.setIfInBounds_toArray, List.set_cons_zero, List.set_cons_succ]
        refine wpAnyK_takeTo 16 (some 48) (undef) [17, 18, 19, 20, 24, 25] rfl rfl (by kernel_rfl) (by kernel_rfl) (by kernel_rfl) (by kernel_rfl) (fun _ _ _ h => h) hS (Or.inr ⟨rfl, rfl⟩) ?_
        simp only [Act.put, List.setIfInBounds_toArray, List.set_cons_zero, List.set_cons_succ]
        refine wpAnyK_takeTo 17 (some 49) (undef) [18, 19, 20, 24, 25] rfl rfl (by kernel_rfl) (by kernel_rfl) (by kernel_rfl) (by kernel_rfl) (fun _ _ _ h => h) hS (Or.inr ⟨rfl, rfl⟩) ?_
        simp only [Act.put, List.setIfInBounds_toArray, List.set_cons_zero, List.set_cons_succ]
        refine wpAnyK_takeTo 18 (some 50) (undef) [19, 20, 24, 25] rfl rfl (by kernel_rfl) (by kernel_rfl) (by kernel_rfl) (by kernel_rfl) (fun _ _ _ h => h) hS (Or.inr ⟨rfl, rfl⟩) ?_
        simp only [Act.put, List.setIfInBounds_toArray, List.set_cons_zero, List.set_cons_succ]
        refine wpAnyK_takeTo 19 (some 51) (undef) [20, 24, 25] rfl rfl (by kernel_rfl) (by kernel_rfl) (by kernel_rfl) (by kernel_rfl) (fun _ _ _ h => h) hS (Or.inr ⟨rfl, rfl⟩) ?_
        simp only [Act.put, List.setIfInBounds_toArray, List.set_cons_zero, List.set_cons_succ]
        refine wpAnyK_takeTo 20 (some 52) (undef) [24, 25] rfl rfl (by kernel_rfl) (by kernel_rfl) (by kernel_rfl) (by kernel_rfl) (fun _ _ _ h => h) hS (Or.inr ⟨rfl, rfl⟩) ?_
        simp only [Act.put, List.setIfInBounds_toArray, List.set_cons_zero, List.set_cons_succ]
        refine wpAnyK_takeTo 21 (some 53) (undef) [22, 23, 24, 25] rfl rfl (by kernel_rfl) (by kernel_rfl) (by kernel_rfl) (by kernel_rfl) (fun _ _ _ h => h) hS (Or.inr ⟨rfl, rfl⟩) ?_
        simp only [Act.put, List.setIfInBounds_toArray, List.set_cons_zero, List.set_cons_succ]
        refine wpAnyK_takeTo 22 (some 54) (undef) [23, 24, 25] rfl rfl (by kernel_rfl) (by kernel_rfl) (by kernel_rfl) (by kernel_rfl) (fun _ _ _ h => h) hS (Or.inr ⟨rfl, rfl⟩) ?_
        simp only [Act.put, List.setIfInBounds_toArray, List.set_cons_zero, List.set_cons_succ]
        refine wpAnyK_takeTo 23 (some 55) (undef) [24, 25] rfl rfl (by kernel_rfl) (by kernel_rfl) (by kernel_rfl) (by kernel_rfl) (fun _ _ _ h => h) hS (Or.inr ⟨rfl, rfl⟩) ?_
        simp only [Act.put, List.setIfInBounds_toArray, List.set_cons_zero, List.set_cons_succ]
        refine wpAnyK_takeTo 24 (some 56) (undef) [25] rfl rfl (by kernel_rfl) (by kernel_rfl) (by kernel_rfl) (by kernel_rfl) (fun _ _ _ h => h) hS (Or.inr ⟨rfl, rfl⟩) ?_
        simp only [Act.put, List.setIfInBounds_toArray, List.set_cons_zero, List.set_cons_succ]
        refine wpAnyK_takeTo 25 (some 57) (.bool false) [] rfl rfl (by kernel_rfl) (by kernel_rfl) (by kernel_rfl) (by kernel_rfl) (fun _ _ _ h => h) hS (Or.inl ⟨rfl, fun w1 hw1 => by go_simp⟩) ?_
        simp only [Act.put, List.setIfInBounds_toArray, List.set_cons_zero, List.set_cons_succ]
        refine wpAnyK_done (by kernel_rfl) ?_ _
        clear hS
        go_wp2
        go_roundw
        case rel => exact ⟨1, by omega, by go_num, HF10.out⟩
        case measure => simp [intOf]; omega
      · obtain ⟨j, rfl⟩ : ∃ j, k = j + 1 := ⟨k - 1, by omega⟩
        obtain ⟨b, hb⟩ : ∃ b, L[j]? = some b := ⟨_, List.getElem?_eq_getElem (by rw [← HN.out]; omega)⟩
        obtain ⟨hcz, hap⟩ := HC.out.step j b f hb HFF.out
        have HCZ := hide hcz
        have HAP := hide hap
        have HPV0 : Hid (∀ U, Fr w U (fun _ => False) → U.cell? ⟨g, off + j * 3, none⟩ = some (.slice b.p b.row.length b.c) ∧ U.cell? ⟨g, off + j * 3 + 1, none⟩ = some (.int .i64 b.lo) ∧ U.cell? ⟨g, off + j * 3 + 2, none⟩ = some (.int .i64 b.hi)) := hide (fun U hU => by
          obtain ⟨g2, o2, e2, _, d0, d1, d2⟩ := rowF_at (HX.out.row.fr hU (fun _ _ _ _ h => h)) hb
          injection e2 with e2
          injection e2 with e2 e3
          subst e2 e3
          exact ⟨d0, d1, d2⟩)
        have HRB0 := hide (fun U (hU : Fr w U (fun _ => False)) => (HX.out.fr hU).ok b (List.mem_of_getElem? hb))
        have HRF0 := hide (fun U (hU : Fr w U (fun _ => False)) => (HX.out.fr hU).ok f (List.mem_of_getElem? HFF.out))
        have hj0 : (0 : Int) ≤ (j : Int) := by omega
        have wj : IntKind.i64.wrap ((j : Int) + 1 - 1) = (j : Int) := by rw [IntKind.wrap_i64]; omega
        have wj2 : IntKind.i64.wrap (j : Int) = (j : Int) := by rw [IntKind.wrap_i64]; omega
        clear hb hcz hap hk0
        go_wp2_with fail
        rw [← H8.out, ← HGB.out]
        clear c0 c1 c2 t4 H8
        refine wp_region_K (fun _ => true) (fun U : World => Fr (w8.drew) U (fun _ => False)) (by kernel_rfl) ?_
        have hS : (fun U : World => Fr (w8.drew) U (fun _ => False)) w8.drew := Fr.refl _ _
        have D1 := Fr.drew w8 (fun _ => False)
        have HF9 := hide ((HF8.out.trans D1).mono (Y := fun _ => False) (by simp))
        have HT := hide (HT8.out.fr D1 (fun h => h))
        clear D1 HT8 HF8
        generalize w8.drew = V at *
        refine wpAnyK_takeTo 0 (some 12) (.pointer (some ⟨gb, 1, none⟩)) [1, 2, 3, 4, 5, 6, 7, 8, 9, 10, 11, 12, 13, 14, 15, 16, 17, 18, 19] rfl rfl (by kernel_rfl) (by kernel_rfl) (by kernel_rfl) (by kernel_rfl) (fun _ _ _ h => h) hS (Or.inl ⟨rfl, fun w1 hw1 => by go_simp⟩) ?_
        simp only [Act.put, List.setIfInBounds_toArray, List.set_cons_zero, List.set_cons_succ]
        refine wpAnyK_takeTo 1 (some 13) (.agg #[.int .i64 f.lo, .int .i64 f.hi]) [2, 3, 4, 5, 6, 7, 8, 9, 10, 11, 12, 13, 14, 15, 16, 17, 18, 19] rfl rfl (by kernel_rfl) (by kernel_rfl) (by kernel_rfl) (by kernel_rfl) (fun _ _ _ h => h) hS (Or.inl ⟨rfl, fun w1 hw1 => by have q0 := (HT.out.fr hw1 (fun h => h)).1; have q1 := (HT.out.fr hw1 (fun h => h)).2.1; have q2 := (HT.out.fr hw1 (fun h => h)).2.2.1; go_simp⟩) ?_
        simp only [Act.put, List.setIfInBounds_toArray, List.set_cons_zero, List.set_cons_succ]
        refine wpAnyK_one (i := 2) (by kernel_rfl) rfl rfl ?_
        refine wp_call_to (some 14) rfl 38 #[.agg #[.int .i64 f.lo, .int .i64 f.hi]] (by go_simp) (HRI.out ⟨f.lo, f.hi⟩ V) ?_
        rintro e W2 ⟨rfl, f2⟩
        have HV2 := hide f2
        rw [HOK.out]
        clear f2
        refine ⟨_, rfl, fun _ => HV2.out, ?_⟩
        simp only [Act.put, List.setIfInBounds_toArray, List.set_cons_zero, List.set_cons_succ]
        have hS2 : (fun U : World => Fr V U (fun _ => False)) W2 := HV2.out
        refine wpAnyK_takeTo 3 (some 15) (.bool false) [4, 5, 6, 7, 8, 9, 10, 11, 12, 13, 14, 15, 16, 17, 18, 19] rfl rfl (by kernel_rfl) (by kernel_rfl) (by kernel_rfl) (by kernel_rfl) (fun _ _ _ h => h) hS2 (Or.inl ⟨rfl, fun w1 hw1 => by go_simp⟩) ?_
        simp only [Act.put, List.setIfInBounds_toArray, List.set_cons_zero, List.set_cons_succ]
        refine wpAnyK_takeTo 4 (some 16) (.bool false) [5, 6, 7, 8, 9, 10, 11, 12, 13, 14, 15, 16, 17, 18, 19] rfl rfl (by kernel_rfl) (by kernel_rfl) (by kernel_rfl) (by kernel_rfl) (fun _ _ _ h => h) hS2 (Or.inl ⟨rfl, fun w1 hw1 => by go_simp⟩) ?_
        simp only [Act.put, List.setIfInBounds_toArray, List.set_cons_zero, List.set_cons_succ]
        have HPV := hide (fun U (hU : Fr V U (fun _ => False)) => HPV0.out U ((HF9.out.trans hU).mono (by simp)))
        have HRB := hide (fun U (hU : Fr V U (fun _ => False)) => HRB0.out U ((HF9.out.trans hU).mono (by simp)))
        have HRF := hide (fun U (hU : Fr V U (fun _ => False)) => HRF0.out U ((HF9.out.trans hU).mono (by simp)))
        refine wpAnyK_takeTo 5 (some 17) (.int .i64 ((j : Int) + 1)) [6, 7, 8, 9, 10, 11, 12, 13, 14, 15, 16, 17, 18, 19] rfl rfl (by kernel_rfl) (by kernel_rfl) (by kernel_rfl) (by kernel_rfl) (fun _ _ _ h => h) hS2 (Or.inl ⟨rfl, fun w1 hw1 => by go_simp; first | done | omega⟩) ?_
        simp only [Act.put, List.setIfInBounds_toArray, List.set_cons_zero, List.set_cons_succ]
        refine wpAnyK_takeTo 6 (some 18) (.bool true) [7, 8, 9, 10, 11, 12, 13, 14, 15, 16, 17, 18, 19] rfl rfl (by kernel_rfl) (by kernel_rfl) (by kernel_rfl) (by kernel_rfl) (fun _ _ _ h => h) hS2 (Or.inl ⟨rfl, fun w1 hw1 => by go_simp; first | done | omega⟩) ?_
        simp only [Act.put, List.setIfInBounds_toArray, List.set_cons_zero, List.set_cons_succ]
        refine wpAnyK_takeTo 7 (some 19) (.bool true) [8, 9, 10, 11, 12, 13, 14, 15, 16, 17, 18, 19] rfl rfl (by kernel_rfl) (by kernel_rfl) (by kernel_rfl) (by kernel_rfl) (fun _ _ _ h => h) hS2 (Or.inl ⟨rfl, fun w1 hw1 => by go_simp; first | done | omega⟩) ?_
        simp only [Act.put, List.setIfInBounds_toArray, List.set_cons_zero, List.set_cons_succ]
        refine wpAnyK_takeTo 8 (some 20) ((.slice (some ⟨g, off, none⟩) n c)) [11, 12, 13, 16, 17, 18, 19] rfl rfl (by kernel_rfl) (by kernel_rfl) (by kernel_rfl) (by kernel_rfl) (fun _ _ _ h => h) hS2 (Or.inl ⟨rfl, fun w1 hw1 => by go_simp; first | done | omega⟩) ?_
        simp only [Act.put, List.setIfInBounds_toArray, List.set_cons_zero, List.set_cons_succ]
        refine wpAnyK_takeTo 9 (some 21) (.int .i64 ((j : Int) + 1)) [10, 11, 12, 13, 16, 17, 18, 19] rfl rfl (by kernel_rfl) (by kernel_rfl) (by kernel_rfl) (by kernel_rfl) (fun _ _ _ h => h) hS2 (Or.inl ⟨rfl, fun w1 hw1 => by go_simp; first | done | omega⟩) ?_
        simp only [Act.put, List.setIfInBounds_toArray, List.set_cons_zero, List.set_cons_succ]
        refine wpAnyK_takeTo 10 (some 22) (.int .i64 (j : Int)) [11, 12, 13, 16, 17, 18, 19] rfl rfl (by kernel_rfl) (by kernel_rfl) (by kernel_rfl) (by kernel_rfl) (fun _ _ _ h => h) hS2 (Or.inl ⟨rfl, fun w1 hw1 => by first | (go_simp; done) | (go_simp; omega)⟩) ?_
        simp only [Act.put, List.setIfInBounds_toArray, List.set_cons_zero, List.set_cons_succ]
        refine wpAnyK_takeTo 11 (some 23) (.pointer (some ⟨g, off + j * 3, none⟩)) [12, 13, 16, 17, 18, 19] rfl rfl (by kernel_rfl) (by kernel_rfl) (by kernel_rfl) (by kernel_rfl) (fun _ _ _ h => h) hS2 (Or.inl ⟨rfl, fun w1 hw1 => by go_simp; first | done | (intro h; omega) | omega⟩) ?_
        simp only [Act.put, List.setIfInBounds_toArray, List.set_cons_zero, List.set_cons_succ]
        refine wpAnyK_takeTo 12 (some 24) (.pointer (some ⟨g, off + j * 3, none⟩)) [13, 16, 17, 18, 19] rfl rfl (by kernel_rfl) (by kernel_rfl) (by kernel_rfl) (by kernel_rfl) (fun _ _ _ h => h) hS2 (Or.inl ⟨rfl, fun w1 hw1 => by go_simp⟩) ?_
        simp only [Act.put, List.setIfInBounds_toArray, List.set_cons_zero, List.set_cons_succ]
        refine wpAnyK_takeTo 13 (some 25) (.slice b.p b.row.length b.c) [16, 17, 18, 19] rfl rfl (by kernel_rfl) (by kernel_rfl) (by kernel_rfl) (by kernel_rfl) (fun _ _ _ h => h) hS2 (Or.inl ⟨rfl, fun w1 hw1 => by obtain ⟨q0, q1, q2⟩ := HPV.out _ hw1; go_simp⟩) ?_
        simp only [Act.put, List.setIfInBounds_toArray, List.set_cons_zero, List.set_cons_succ]
        refine wpAnyK_takeTo 14 (some 26) (.pointer (some ⟨gb, 0, none⟩)) [15, 16, 17, 18, 19] rfl rfl (by kernel_rfl) (by kernel_rfl) (by kernel_rfl) (by kernel_rfl) (fun _ _ _ h => h) hS2 (Or.inl ⟨rfl, fun w1 hw1 => by go_simp⟩) ?_
        simp only [Act.put, List.setIfInBounds_toArray, List.set_cons_zero, List.set_cons_succ]
        refine wpAnyK_takeTo 15 (some 27) (.slice f.p f.row.length f.c) [16, 17, 18, 19] rfl rfl (by kernel_rfl) (by kernel_rfl) (by kernel_rfl) (by kernel_rfl) (fun _ _ _ h => h) hS2 (Or.inl ⟨rfl, fun w1 hw1 => by have q0 := (HT.out.fr hw1 (fun h => h)).1; have q1 := (HT.out.fr hw1 (fun h => h)).2.1; have q2 := (HT.out.fr hw1 (fun h => h)).2.2.1; go_simp⟩) ?_
        simp only [Act.put, List.setIfInBounds_toArray, List.set_cons_zero, List.set_cons_succ]
        refine wpAnyK_one (i := 16) (by kernel_rfl) rfl rfl ?_
        have hcm := rcompare_any b.p f.p b.c f.c b.row f.row W2 (HRB.out W2 HV2.out).vals (HRF.out W2 HV2.out).vals (by have := (HRB.out W2 HV2.out).len; omega) (by have := (HRF.out W2 HV2.out).len; omega)
        refine wp_call_to (some 28) rfl 65 #[.slice b.p b.row.length b.c, .slice f.p f.row.length f.c] (by go_simp) hcm ?_
        rintro e W3 ⟨rfl, f3⟩
        have HV3 := hide ((HV2.out.trans f3).mono (Y := fun _ => False) (by simp))
        clear f3 hcm
        refine ⟨_, rfl, fun _ => HV3.out, ?_⟩
        simp only [Act.put, List.setIfInBounds_toArray, List.set_cons_zero, List.set_cons_succ]
        have hS3 : (fun U : World => Fr V U (fun _ => False)) W3 := HV3.out
        have hcz := HCZ.out
        refine wpAnyK_takeTo 17 (some 29) (.bool false) [18, 19] rfl rfl (by kernel_rfl) (by kernel_rfl) (by kernel_rfl) (by kernel_rfl) (fun _ _ _ h => h) hS3 (Or.inl ⟨rfl, fun w1 hw1 => by first | (go_simp; done) | (go_simp; omega)⟩) ?_
        simp only [Act.put, List.setIfInBounds_toArray, List.set_cons_zero, List.set_cons_succ]
        refine wpAnyK_takeTo 18 (some 30) (.bool false) [19] rfl rfl (by kernel_rfl) (by kernel_rfl) (by kernel_rfl) (by kernel_rfl) (fun _ _ _ h => h) hS3 (Or.inl ⟨rfl, fun w1 hw1 => by go_simp⟩) ?_
        simp only [Act.put, List.setIfInBounds_toArray, List.set_cons_zero, List.set_cons_succ]
        refine wpAnyK_takeTo 19 (some 31) (.bool false) [] rfl rfl (by kernel_rfl) (by kernel_rfl) (by kernel_rfl) (by kernel_rfl) (fun _ _ _ h => h) hS3 (Or.inl ⟨rfl, fun w1 hw1 => by go_simp⟩) ?_
        simp only [Act.put, List.setIfInBounds_toArray, List.set_cons_zero, List.set_cons_succ]
        refine wpAnyK_done (by kernel_rfl) ?_ _
        clear hS hS2 hS3
        go_wp2_with fail
        refine wp_region_K (fun _ => true) (fun U : World => Fr (W3.drew) U (fun _ => False)) (by kernel_rfl) ?_
        have hS : (fun U : World => Fr (W3.drew) U (fun _ => False)) W3.drew := Fr.refl _ _
        have D1 := Fr.drew W3 (fun _ => False)
        have HF10 := hide (((HF9.out.trans HV3.out).trans D1).mono (Y := fun _ => False) (by simp))
        have HVV := hide ((HV3.out.trans D1).mono (Y := fun _ => False) (by simp))
        have HT2 := hide (HT.out.fr HVV.out (fun h => h))
        have HPV2 := hide (fun U (hU : Fr W3.drew U (fun _ => False)) => HPV.out U ((HVV.out.trans hU).mono (by simp)))
        have HRS := hide (rsame_any (HRB.out _ HVV.out) (HRF.out _ HVV.out))
        clear D1
        generalize W3.drew = V3 at *
        refine wpAnyK_takeTo 0 (some 32) (.int .i64 ((j : Int) + 1)) [1, 2, 3, 4, 5, 6, 7, 8, 9, 10, 11, 12, 13, 14, 15, 16, 17, 18, 19, 20, 21, 22, 23, 24, 25] rfl rfl (by kernel_rfl) (by kernel_rfl) (by kernel_rfl) (by kernel_rfl) (fun _ _ _ h => h) hS (Or.inl ⟨rfl, fun w1 hw1 => by go_simp; first | done | omega⟩) ?_
        simp only [Act.put, List.setIfInBounds_toArray, List.set_cons_zero, List.set_cons_succ]
        refine wpAnyK_takeTo 1 (some 33) (.bool true) [2, 3, 4, 5, 6, 7, 8, 9, 10, 11, 12, 13, 14, 15, 16, 17, 18, 19, 20, 21, 22, 23, 24, 25] rfl rfl (by kernel_rfl) (by kernel_rfl) (by kernel_rfl) (by kernel_rfl) (fun _ _ _ h => h) hS (Or.inl ⟨rfl, fun w1 hw1 => by go_simp; first | done | omega⟩) ?_
        simp only [Act.put, List.setIfInBounds_toArray, List.set_cons_zero, List.set_cons_succ]
        refine wpAnyK_takeTo 2 (some 34) (.bool true) [3, 4, 5, 6, 7, 8, 9, 10, 11, 12, 13, 14, 15, 16, 17, 18, 19, 20, 21, 22, 23, 24, 25] rfl rfl (by kernel_rfl) (by kernel_rfl) (by kernel_rfl) (by kernel_rfl) (fun _ _ _ h => h) hS (Or.inl ⟨rfl, fun w1 hw1 => by go_simp; first | done | omega⟩) ?_
        simp only [Act.put, List.setIfInBounds_toArray, List.set_cons_zero, List.set_cons_succ]
        refine wpAnyK_takeTo 3 (some 35) ((.slice (some ⟨g, off, none⟩) n c)) [6, 7, 8, 11, 12, 13, 14, 15, 16, 17, 18, 19, 20, 21, 22, 23, 24, 25] rfl rfl (by kernel_rfl) (by kernel_rfl) (by kernel_rfl) (by kernel_rfl) (fun _ _ _ h => h) hS (Or.inl ⟨rfl, fun w1 hw1 => by go_simp; first | done | omega⟩) ?_
        simp only [Act.put, List.setIfInBounds_toArray, List.set_cons_zero, List.set_cons_succ]
        refine wpAnyK_takeTo 4 (some 36) (.int .i64 ((j : Int) + 1)) [5, 6, 7, 8, 11, 12, 13, 14, 15, 16, 17, 18, 19, 20, 21, 22, 23, 24, 25] rfl rfl (by kernel_rfl) (by kernel_rfl) (by kernel_rfl) (by kernel_rfl) (fun _ _ _ h => h) hS (Or.inl ⟨rfl, fun w1 hw1 => by go_simp; first | done | omega⟩) ?_
        simp only [Act.put, List.setIfInBounds_toArray, List.set_cons_zero, List.set_cons_succ]
        refine wpAnyK_takeTo 5 (some 37) (.int .i64 (j : Int)) [6, 7, 8, 11, 12, 13, 14, 15, 16, 17, 18, 19, 20, 21, 22, 23, 24, 25] rfl rfl (by kernel_rfl) (by kernel_rfl) (by kernel_rfl) (by kernel_rfl) (fun _ _ _ h => h) hS (Or.inl ⟨rfl, fun w1 hw1 => by first | (go_simp; done) | (go_simp; omega)⟩) ?_
        simp only [Act.put, List.setIfInBounds_toArray, List.set_cons_zero, List.set_cons_succ]
        refine wpAnyK_takeTo 6 (some 38) (.pointer (some ⟨g, off + j * 3, none⟩)) [7, 8, 11, 12, 13, 14, 15, 16, 17, 18, 19, 20, 21, 22, 23, 24, 25] rfl rfl (by kernel_rfl) (by kernel_rfl) (by kernel_rfl) (by kernel_rfl) (fun _ _ _ h => h) hS (Or.inl ⟨rfl, fun w1 hw1 => by go_simp; first | done | (intro h; omega) | omega⟩) ?_
        simp only [Act.put, List.setIfInBounds_toArray, List.set_cons_zero, List.set_cons_succ]
        refine wpAnyK_takeTo 7 (some 39) (.pointer (some ⟨g, off + j * 3, none⟩)) [8, 11, 12, 13, 14, 15, 16, 17, 18, 19, 20, 21, 22, 23, 24, 25] rfl rfl (by kernel_rfl) (by kernel_rfl) (by kernel_rfl) (by kernel_rfl) (fun _ _ _ h => h) hS (Or.inl ⟨rfl, fun w1 hw1 => by go_simp⟩) ?_
        simp only [Act.put, List.setIfInBounds_toArray, List.set_cons_zero, List.set_cons_succ]
        refine wpAnyK_takeTo 8 (some 40) (.slice b.p b.row.length b.c) [11, 12, 13, 14, 15, 16, 17, 18, 19, 20, 21, 22, 23, 24, 25] rfl rfl (by kernel_rfl) (by kernel_rfl) (by kernel_rfl) (by kernel_rfl) (fun _ _ _ h => h) hS (Or.inl ⟨rfl, fun w1 hw1 => by obtain ⟨q0, q1, q2⟩ := HPV2.out _ hw1; go_simp⟩) ?_
        simp only [Act.put, List.setIfInBounds_toArray, List.set_cons_zero, List.set_cons_succ]
        refine wpAnyK_takeTo 9 (some 41) (.pointer (some ⟨gb, 0, none⟩)) [10, 11, 12, 13, 14, 15, 16, 17, 18, 19, 20, 21, 22, 23, 24, 25] rfl rfl (by kernel_rfl) (by kernel_rfl) (by kernel_rfl) (by kernel_rfl) (fun _ _ _ h => h) hS (Or.inl ⟨rfl, fun w1 hw1 => by go_simp⟩) ?_
        simp only [Act.put, List.setIfInBounds_toArray, List.set_cons_zero, List.set_cons_succ]
        refine wpAnyK_takeTo 10 (some 42) (.slice f.p f.row.length f.c) [11, 12, 13, 14, 15, 16, 17, 18, 19, 20, 21, 22, 23, 24, 25] rfl rfl (by kernel_rfl) (by kernel_rfl) (by kernel_rfl) (by kernel_rfl) (fun _ _ _ h => h) hS (Or.inl ⟨rfl, fun w1 hw1 => by have q0 := (HT2.out.fr hw1 (fun h => h)).1; have q1 := (HT2.out.fr hw1 (fun h => h)).2.1; have q2 := (HT2.out.fr hw1 (fun h => h)).2.2.1; go_simp⟩) ?_
        simp only [Act.put, List.setIfInBounds_toArray, List.set_cons_zero, List.set_cons_succ]
        refine wpAnyK_one (i := 11) (by kernel_rfl) rfl rfl ?_
        refine wp_call_to (some 43) rfl 36 #[.slice b.p b.row.length b.c, .slice f.p f.row.length f.c] (by go_simp) HRS.out ?_
        rintro e W4 ⟨rfl, f4⟩
        have HV4 := hide f4
        have HF11 := hide ((HF10.out.trans f4).mono (Y := fun _ => False) (by simp))
        clear f4 hcz
        refine ⟨_, rfl, fun _ => HV4.out, ?_⟩
        simp only [Act.put, List.setIfInBounds_toArray, List.set_cons_zero, List.set_cons_succ]
        have hS4 : (fun U : World => Fr V3 U (fun _ => False)) W4 := HV4.out
        by_cases hsr : b.row = f.row
        · rw [show decide (b.row = f.row) = true from decide_eq_true hsr]
          have hlo := HAP.out hsr
          refine wpAnyK_takeTo 12 (some 44) (.bool true) [13, 14, 15, 16, 17, 18, 19, 20, 21, 22, 23, 24, 25] rfl rfl (by kernel_rfl) (by kernel_rfl) (by kernel_rfl) (by kernel_rfl) (fun _ _ _ h => h) hS4 (Or.inl ⟨rfl, fun w1 hw1 => by go_simp; first | done | omega⟩) ?_
          simp only [Act.put, List.setIfInBounds_toArray, List.set_cons_zero, List.set_cons_succ]
          refine wpAnyK_takeTo 13 (some 45) (.bool true) [14, 15, 16, 17, 18, 19, 20, 21, 22, 23, 24, 25] rfl rfl (by kernel_rfl) (by kernel_rfl) (by kernel_rfl) (by kernel_rfl) (fun _ _ _ h => h) hS4 (Or.inl ⟨rfl, fun w1 hw1 => by go_simp; first | done | omega⟩) ?_
          simp only [Act.put, List.setIfInBounds_toArray, List.set_cons_zero, List.set_cons_succ]
          refine wpAnyK_takeTo 14 (some 46) ((.slice (some ⟨g, off, none⟩) n c)) [17, 18, 19, 20, 24, 25] rfl rfl (by kernel_rfl) (by kernel_rfl) (by kernel_rfl) (by kernel_rfl) (fun _ _ _ h => h) hS4 (Or.inl ⟨rfl, fun w1 hw1 => by go_simp; first | done | omega⟩) ?_
          simp only [Act.put, List.setIfInBounds_toArray, List.set_cons_zero, List.set_cons_succ]
          refine wpAnyK_takeTo 15 (some 47) (.int .i64 ((j : Int) + 1)) [16, 17, 18, 19, 20, 24, 25] rfl rfl (by kernel_rfl) (by kernel_rfl) (by kernel_rfl) (by kernel_rfl) (fun _ _ _ h => h) hS4 (Or.inl ⟨rfl, fun w1 hw1 => by go_simp; first | done | omega⟩) ?_
          simp only [Act.put, List.setIfInBounds_toArray, List.set_cons_zero, List.set_cons_succ]
          refine wpAnyK_takeTo 16 (some 48) (.int .i64 (j : Int)) [17, 18, 19, 20, 24, 25] rfl rfl (by kernel_rfl) (by kernel_rfl) (by kernel_rfl) (by kernel_rfl) (fun _ _ _ h => h) hS4 (Or.inl ⟨rfl, fun w1 hw1 => by first | (go_simp; done) | (go_simp; omega)⟩) ?_
          simp only [Act.put, List.setIfInBounds_toArray, List.set_cons_zero, List.set_cons_succ]
          refine wpAnyK_takeTo 17 (some 49) (.pointer (some ⟨g, off + j * 3, none⟩)) [18, 19, 20, 24, 25] rfl rfl (by kernel_rfl) (by kernel_rfl) (by kernel_rfl) (by kernel_rfl) (fun _ _ _ h => h) hS4 (Or.inl ⟨rfl, fun w1 hw1 => by go_simp; first | done | (intro h; omega) | omega⟩) ?_
          simp only [Act.put, List.setIfInBounds_toArray, List.set_cons_zero, List.set_cons_succ]
          refine wpAnyK_takeTo 18 (some 50) (.pointer (some ⟨g, off + j * 3 + 1, none⟩)) [19, 20, 24, 25] rfl rfl (by kernel_rfl) (by kernel_rfl) (by kernel_rfl) (by kernel_rfl) (fun _ _ _ h => h) hS4 (Or.inl ⟨rfl, fun w1 hw1 => by go_simp⟩) ?_
          simp only [Act.put, List.setIfInBounds_toArray, List.set_cons_zero, List.set_cons_succ]
          refine wpAnyK_takeTo 19 (some 51) (.pointer (some ⟨g, off + j * 3 + 1 + 1, none⟩)) [20, 24, 25] rfl rfl (by kernel_rfl) (by kernel_rfl) (by kernel_rfl) (by kernel_rfl) (fun _ _ _ h => h) hS4 (Or.inl ⟨rfl, fun w1 hw1 => by go_simp⟩) ?_
          simp only [Act.put, List.setIfInBounds_toArray, List.set_cons_zero, List.set_cons_succ]
          refine wpAnyK_takeTo 20 (some 52) (.int .i64 b.hi) [24, 25] rfl rfl (by kernel_rfl) (by kernel_rfl) (by kernel_rfl) (by kernel_rfl) (fun _ _ _ h => h) hS4 (Or.inl ⟨rfl, fun w1 hw1 => by obtain ⟨q0, q1, q2⟩ := HPV2.out _ hw1; go_simp⟩) ?_
          simp only [Act.put, List.setIfInBounds_toArray, List.set_cons_zero, List.set_cons_succ]
          refine wpAnyK_takeTo 21 (some 53) (.pointer (some ⟨gb, 1, none⟩)) [22, 23, 24, 25] rfl rfl (by kernel_rfl) (by kernel_rfl) (by kernel_rfl) (by kernel_rfl) (fun _ _ _ h => h) hS4 (Or.inl ⟨rfl, fun w1 hw1 => by go_simp⟩) ?_
          simp only [Act.put, List.setIfInBounds_toArray, List.set_cons_zero, List.set_cons_succ]
          refine wpAnyK_takeTo 22 (some 54) (.pointer (some ⟨gb, 1, none⟩)) [23, 24, 25] rfl rfl (by kernel_rfl) (by kernel_rfl) (by kernel_rfl) (by kernel_rfl) (fun _ _ _ h => h) hS4 (Or.inl ⟨rfl, fun w1 hw1 => by go_simp⟩) ?_
          simp only [Act.put, List.setIfInBounds_toArray, List.set_cons_zero, List.set_cons_succ]
          refine wpAnyK_takeTo 23 (some 55) (.int .i64 f.lo) [24, 25] rfl rfl (by kernel_rfl) (by kernel_rfl) (by kernel_rfl) (by kernel_rfl) (fun _ _ _ h => h) hS4 (Or.inl ⟨rfl, fun w1 hw1 => by have q0 := (HT2.out.fr hw1 (fun h => h)).1; have q1 := (HT2.out.fr hw1 (fun h => h)).2.1; have q2 := (HT2.out.fr hw1 (fun h => h)).2.2.1; go_simp⟩) ?_
          simp only [Act.put, List.setIfInBounds_toArray, List.set_cons_zero, List.set_cons_succ]
          refine wpAnyK_takeTo 24 (some 56) (.bool false) [25] rfl rfl (by kernel_rfl) (by kernel_rfl) (by kernel_rfl) (by kernel_rfl) (fun _ _ _ h => h) hS4 (Or.inl ⟨rfl, fun w1 hw1 => by first | (go_simp; done) | (go_simp; omega)⟩) ?_
          simp only [Act.put, List.setIfInBounds_toArray, List.set_cons_zero, List.set_cons_succ]
          refine wpAnyK_takeTo 25 (some 57) (.bool false) [] rfl rfl (by kernel_rfl) (by kernel_rfl) (by kernel_rfl) (by kernel_rfl) (fun _ _ _ h => h) hS4 (Or.inl ⟨rfl, fun w1 hw1 => by go_simp⟩) ?_
          simp only [Act.put, List.setIfInBounds_toArray, List.set_cons_zero, List.set_cons_succ]
          refine wpAnyK_done (by kernel_rfl) ?_ _
          clear hS hS4
          go_wp2
          go_roundw
          case rel => exact ⟨j + 1 + 1, by omega, by go_num, HF11.out⟩
          case measure => simp [intOf]; omega
        · rw [show decide (b.row = f.row) = false from decide_eq_false hsr]
          refine wpAnyK_takeTo 12 (some 44) (.bool false) [13, 14, 15, 16, 17, 18, 19, 20, 21, 22, 23, 24, 25] rfl rfl (by kernel_rfl) (by kernel_rfl) (by kernel_rfl) (by kernel_rfl) (fun _ _ _ h => h) hS4 (Or.inl ⟨rfl, fun w1 hw1 => by go_simp⟩) ?_
          simp only [Act.put, List.setIfInBounds_toArray, List.set_cons_zero, List.set_cons_succ]
          refine wpAnyK_takeTo 13 (some 45) (.bool false) [14, 15, 16, 17, 18, 19, 20, 21, 22, 23, 24, 25] rfl rfl (by kernel_rfl) (by kernel_rfl) (by kernel_rfl) (by kernel_rfl) (fun _ _ _ h => h) hS4 (Or.inl ⟨rfl, fun w1 hw1 => by go_simp⟩) ?_
          simp only [Act.put, List.setIfInBounds_toArray, List.set_cons_zero, List.set_cons_succ]
          refine wpAnyK_takeTo 14 (some 46) (undef) [17, 18, 19, 20, 24, 25] rfl rfl (by kernel_rfl) (by kernel_rfl) (by kernel_rfl) (by kernel_rfl) (fun _ _ _ h => h) hS4 (Or.inr ⟨rfl, rfl⟩) ?_
          simp only [Act.put, List.setIfInBounds_toArray, List.set_cons_zero, List.set_cons_succ]
          refine wpAnyK_takeTo 15 (some 47) (undef) [16, 17, 18, 19, 20, 24, 25] rfl rfl (by kernel_rfl) (by kernel_rfl) (by kernel_rfl) (by kernel_rfl) (fun _ _ _ h => h) hS4 (Or.inr ⟨rfl, rfl⟩) ?_
          simp only [Act.put, List.setIfInBounds_toArray, List.set_cons_zero, List.set_cons_succ]
          refine wpAnyK_takeTo 16 (some 48) (undef) [17, 18, 19, 20, 24, 25] rfl rfl (by kernel_rfl) (by kernel_rfl) (by kernel_rfl) (by kernel_rfl) (fun _ _ _ h => h) hS4 (Or.inr ⟨rfl, rfl⟩) ?_
          simp only [Act.put, List.setIfInBounds_toArray, List.set_cons_zero, List.set_cons_succ]
          refine wpAnyK_takeTo 17 (some 49) (undef) [18, 19, 20, 24, 25] rfl rfl (by kernel_rfl) (by kernel_rfl) (by kernel_rfl) (by kernel_rfl) (fun _ _ _ h => h) hS4 (Or.inr ⟨rfl, rfl⟩) ?_
          simp only [Act.put, List.setIfInBounds_toArray, List.set_cons_zero, List.set_cons_succ]
          refine wpAnyK_takeTo 18 (some 50) (undef) [19, 20, 24, 25] rfl rfl (by kernel_rfl) (by kernel_rfl) (by kernel_rfl) (by kernel_rfl) (fun _ _ _ h => h) hS4 (Or.inr ⟨rfl, rfl⟩) ?_
          simp only [Act.put, List.setIfInBounds_toArray, List.set_cons_zero, List.set_cons_succ]
          refine wpAnyK_takeTo 19 (some 51) (undef) [20, 24, 25] rfl rfl (by kernel_rfl) (by kernel_rfl) (by kernel_rfl) (by kernel_rfl) (fun _ _ _ h => h) hS4 (Or.inr ⟨rfl, rfl⟩) ?_
          simp only [Act.put, List.setIfInBounds_toArray, List.set_cons_zero, List.set_cons_succ]
          refine wpAnyK_takeTo 20 (some 52) (undef) [24, 25] rfl rfl (by kernel_rfl) (by kernel_rfl) (by kernel_rfl) (by kernel_rfl) (fun _ _ _ h => h) hS4 (Or.inr ⟨rfl, rfl⟩) ?_
          simp only [Act.put, List.setIfInBounds_toArray, List.set_cons_zero, List.set_cons_succ]
          refine wpAnyK_takeTo 21 (some 53) (undef) [22, 23, 24, 25] rfl rfl (by kernel_rfl) (by kernel_rfl) (by kernel_rfl) (by kernel_rfl) (fun _ _ _ h => h) hS4 (Or.inr ⟨rfl, rfl⟩) ?_
          simp only [Act.put, List.setIfInBounds_toArray, List.set_cons_zero, List.set_cons_succ]
          refine wpAnyK_takeTo 22 (some 54) (undef) [23, 24, 25] rfl rfl (by kernel_rfl) (by kernel_rfl) (by kernel_rfl) (by kernel_rfl) (fun _ _ _ h => h) hS4 (Or.inr ⟨rfl, rfl⟩) ?_
          simp only [Act.put, List.setIfInBounds_toArray, List.set_cons_zero, List.set_cons_succ]
          refine wpAnyK_takeTo 23 (some 55) (undef) [24, 25] rfl rfl (by kernel_rfl) (by kernel_rfl) (by kernel_rfl) (by kernel_rfl) (fun _ _ _ h => h) hS4 (Or.inr ⟨rfl, rfl⟩) ?_
          simp only [Act.put, List.setIfInBounds_toArray, List.set_cons_zero, List.set_cons_succ]
          refine wpAnyK_takeTo 24 (some 56) (undef) [25] rfl rfl (by kernel_rfl) (by kernel_rfl) (by kernel_rfl) (by kernel_rfl) (fun _ _ _ h => h) hS4 (Or.inr ⟨rfl, rfl⟩) ?_
          simp only [Act.put, List.setIfInBounds_toArray, List.set_cons_zero, List.set_cons_succ]
          refine wpAnyK_takeTo 25 (some 57) (.bool false) [] rfl rfl (by kernel_rfl) (by kernel_rfl) (by kernel_rfl) (by kernel_rfl) (fun _ _ _ h => h) hS4 (Or.inl ⟨rfl, fun w1 hw1 => by go_simp⟩) ?_
          simp only [Act.put, List.setIfInBounds_toArray, List.set_cons_zero, List.set_cons_succ]
          refine wpAnyK_done (by kernel_rfl) ?_ _
          clear hS hS4
          go_wp2
          go_roundw
          case rel => exact ⟨j + 1 + 1, by omega, by go_num, HF11.out⟩
          case measure => simp [intOf]; omega
    · obtain rfl : k = n := by omega
      go_wp2
      go_ret
      exact ⟨rfl, HF.out⟩
end Go.Proofs.YtlapifncplbcnaaGreat
