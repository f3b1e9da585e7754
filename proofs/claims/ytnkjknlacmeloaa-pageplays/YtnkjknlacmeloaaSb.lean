/- One call at the page and at the document's: bytes set within a record. -/
import Derived.Test.YtnkjknlacmeloaaSa
namespace Go.Proofs.Ytnkjknlacmeloaa
open Go.RowKit
set_option linter.unusedVariables false

set_option maxRecDepth 100000 in
set_option maxHeartbeats 2000000 in
theorem step_set (w : World) (b : Nat) (F : Nat → Prop) (R : List (List UInt8)) (m : Int) (v : Value) (o : POp) (hs : St w b F R m v) (hok : OpOk w o) :
    Calls Try.prog 13 #[.pointer (some ⟨b, 0, none⟩), .agg #[v, .int .i64 m], .agg #[.int .i64 1, .int .i64 o.slot, .int .i64 o.at_, .slice o.a o.n o.c, .int .i64 o.mark]] w (StepPost w b F v) := by
  have HS := hide (hs.keep (bx0_fr w v m 1 o))
  have HS0 := hide hs
  have HBX := hide (bx0_boxes w v m 1 o)
  have HB0 := hide (hok.bytes.fr (bx0_fr w v m 1 o) (fun _ _ _ _ h => h))
  have HF0 := hide (bx0_fr w v m 1 o)
  have hsz := bx0_size w v m 1 o
  have hcv := run_string (bx0 w v m 1 o) o.a o.n o.c o.l HB0.out.bin
  have hnl := hok.len
  have hll := hok.bytes.1
  have hfit := hs.page.fits
  have hcnt := hfit.count
  have HFT := hide hfit
  have HOK := hide hok
  obtain ⟨va, vc, rfl, _⟩ := hs.own.shape
  clear hs hok hfit
  unfold bx0 at hcv
  go_enter Try.func13, Try.ntmps13
  go_wp2_with fail
  change Calls Try.prog 33 _ (bx0 w (.slice va R.length vc) m 1 o) _
  obtain ⟨W0, hW0⟩ : ∃ W0, W0 = bx0 w (.slice va R.length vc) m 1 o := ⟨_, rfl⟩
  obtain ⟨gb, hgb⟩ : ∃ gb, gb = w.heap.size := ⟨_, rfl⟩
  rw [← hW0] at HS HBX HB0 HF0 hsz ⊢
  rw [← hgb] at HBX hsz ⊢
  have hbw : w.heap.size ≤ gb := by omega
  clear hcv hW0 hgb
  by_cases hsl : 0 ≤ o.slot ∧ o.slot < R.length
  · obtain ⟨k, hk⟩ : ∃ k : Nat, o.slot = k := ⟨o.slot.toNat, by omega⟩
    obtain ⟨r, hr⟩ : ∃ r, R[k]? = some r := ⟨_, List.getElem?_eq_getElem (by omega)⟩
    have HR := hide hr
    have HK := hide hk
    clear hr hk
    by_cases hat : 0 ≤ o.at_ ∧ o.at_ + o.n ≤ r.length
    · refine ((by have h := rset_ok W0 _ R m o.l HS.out.own k r HR.out (HFT.out.each r (List.mem_of_getElem? HR.out)) hcnt o.at_.toNat (by omega); rw [← HK.out, Int.toNat_of_nonneg hat.1] at h; exact h : Calls Try.prog 33 _ W0 _)).mono ?_
      rintro e W1 ⟨v1, rfl, ho1, f1, hr1⟩
      obtain ⟨va1, vc1, hv1, _⟩ := ho1.shape
      rw [List.length_set] at hv1
      subst hv1
      have HO1 := hide ho1
      have HR1 := hide (fun q (hq : (Value.slice va1 R.length vc1).ownBlock = some q) => And.intro (show gb + 3 ≤ q by have := hr1 q hq; omega) (ho1.lt q hq).2)
      clear hr1 ho1
      have HBX1 := hide (HBX.out.fr f1 (fun h => h) (fun h => h) (fun h => h))
      have HS1 := hide (HS.out.page.keep f1)
      have HLO := hide HS0.out.low
      have HF1 := hide ((HF0.out.trans f1).mono (Y := fun _ => False) (by simp))
      have hs1 : gb + 3 ≤ W1.heap.size := by have := f1.size; omega
      have FB := (Fr.alloc W1 (.cells #[.slice va1 R.length vc1, .int .i64 m] 28) (fun _ => False)).trans (Fr.drew _ (fun _ => False))
      have FB' : Fr W1 (W1.alloc (.cells #[.slice va1 R.length vc1, .int .i64 m] 28)).drew (fun _ => False) := FB.mono (by simp)
      have HB1 := hide ((HB0.out.fr f1 (fun _ _ _ _ h => h)).fr FB' (fun _ _ _ _ h => h))
      have HBX2 := hide (HBX1.out.fr FB' (fun h => h) (fun h => h) (fun h => h))
      have HT2 := hide ((two_of (heap_alloc_new W1 (.cells #[.slice va1 R.length vc1, .int .i64 m] 28))).fr (Fr.drew _ (fun _ => False)) (fun h => h))
      have HF2 := hide ((HF1.out.trans FB').mono (Y := fun _ => False) (by simp))
      have HP2 := hide (HS1.out.keep FB')
      have HO2 := hide (HO1.out.fr FB' (fun _ _ h => h))
      have hs2 : (W1.alloc (.cells #[.slice va1 R.length vc1, .int .i64 m] 28)).drew.heap.size = W1.heap.size + 1 := by simp [World.drew]
      clear HS HBX HB0 HF0 f1 FB FB' HBX1 HS1 HF1 HO1
      go_wp2_with fail
      refine wp_region_K (fun _ => true) (fun V => (V.cell? ⟨W1.heap.size, 0, none⟩ = some (.slice va1 R.length vc1) ∧ V.cell? ⟨W1.heap.size, 1, none⟩ = some (.int .i64 m)) ∧ V.cell? ⟨gb + 1, 1, none⟩ = some (.int .i64 o.slot) ∧ V.cell? ⟨gb + 1, 2, none⟩ = some (.int .i64 o.at_) ∧ V.cell? ⟨gb + 1, 3, none⟩ = some (.slice o.a o.n o.c)) (by kernel_rfl) ?_
      generalize (W1.alloc (.cells #[.slice va1 R.length vc1, .int .i64 m] 28)).drew = W2 at *
      have hS := And.intro (And.intro HT2.out.1 HT2.out.2.1) (And.intro HBX2.out.c1 (And.intro HBX2.out.c2 HBX2.out.c3))
      refine wpAnyK_takeTo 0 (some 60) (.agg #[.slice va1 R.length vc1, .int .i64 m]) [] rfl rfl (by kernel_rfl) (by kernel_rfl) (by kernel_rfl) (by kernel_rfl) (fun _ _ _ h => h) hS (Or.inl ⟨rfl, fun w1 hw1 => by obtain ⟨⟨g0, g1⟩, g2, g3, g4⟩ := hw1; go_simp⟩) ?_
      simp only [Act.put, List.setIfInBounds_toArray, List.set_cons_zero, List.set_cons_succ]
      refine wpAnyK_takeTo 1 (some 61) (.pointer (some ⟨b, 0, none⟩)) [] rfl rfl (by kernel_rfl) (by kernel_rfl) (by kernel_rfl) (by kernel_rfl) (fun _ _ _ h => h) hS (Or.inl ⟨rfl, fun w1 hw1 => by go_simp⟩) ?_
      simp only [Act.put, List.setIfInBounds_toArray, List.set_cons_zero, List.set_cons_succ]
      refine wpAnyK_takeTo 2 (some 62) (.pointer (some ⟨gb + 1, 1, none⟩)) [] rfl rfl (by kernel_rfl) (by kernel_rfl) (by kernel_rfl) (by kernel_rfl) (fun _ _ _ h => h) hS (Or.inl ⟨rfl, fun w1 hw1 => by go_simp⟩) ?_
      simp only [Act.put, List.setIfInBounds_toArray, List.set_cons_zero, List.set_cons_succ]
      refine wpAnyK_takeTo 3 (some 63) (.int .i64 o.slot) [] rfl rfl (by kernel_rfl) (by kernel_rfl) (by kernel_rfl) (by kernel_rfl) (fun _ _ _ h => h) hS (Or.inl ⟨rfl, fun w1 hw1 => by obtain ⟨⟨g0, g1⟩, g2, g3, g4⟩ := hw1; go_simp⟩) ?_
      simp only [Act.put, List.setIfInBounds_toArray, List.set_cons_zero, List.set_cons_succ]
      refine wpAnyK_takeTo 4 (some 64) (.pointer (some ⟨gb + 1, 2, none⟩)) [] rfl rfl (by kernel_rfl) (by kernel_rfl) (by kernel_rfl) (by kernel_rfl) (fun _ _ _ h => h) hS (Or.inl ⟨rfl, fun w1 hw1 => by go_simp⟩) ?_
      simp only [Act.put, List.setIfInBounds_toArray, List.set_cons_zero, List.set_cons_succ]
      refine wpAnyK_takeTo 5 (some 65) (.int .i64 o.at_) [] rfl rfl (by kernel_rfl) (by kernel_rfl) (by kernel_rfl) (by kernel_rfl) (fun _ _ _ h => h) hS (Or.inl ⟨rfl, fun w1 hw1 => by obtain ⟨⟨g0, g1⟩, g2, g3, g4⟩ := hw1; go_simp⟩) ?_
      simp only [Act.put, List.setIfInBounds_toArray, List.set_cons_zero, List.set_cons_succ]
      refine wpAnyK_takeTo 6 (some 66) (.pointer (some ⟨gb + 1, 3, none⟩)) [] rfl rfl (by kernel_rfl) (by kernel_rfl) (by kernel_rfl) (by kernel_rfl) (fun _ _ _ h => h) hS (Or.inl ⟨rfl, fun w1 hw1 => by go_simp⟩) ?_
      simp only [Act.put, List.setIfInBounds_toArray, List.set_cons_zero, List.set_cons_succ]
      refine wpAnyK_takeTo 7 (some 67) (.slice o.a o.n o.c) [] rfl rfl (by kernel_rfl) (by kernel_rfl) (by kernel_rfl) (by kernel_rfl) (fun _ _ _ h => h) hS (Or.inl ⟨rfl, fun w1 hw1 => by obtain ⟨⟨g0, g1⟩, g2, g3, g4⟩ := hw1; go_simp⟩) ?_
      simp only [Act.put, List.setIfInBounds_toArray, List.set_cons_zero, List.set_cons_succ]
      refine wpAnyK_takeTo 9 (some 69) (.int .i64 0) [] rfl rfl (by kernel_rfl) (by kernel_rfl) (by kernel_rfl) (by kernel_rfl) (fun _ _ _ h => h) hS (Or.inl ⟨rfl, fun w1 hw1 => by go_simp⟩) ?_
      simp only [Act.put, List.setIfInBounds_toArray, List.set_cons_zero, List.set_cons_succ]
      refine wpAnyK_one (i := 8) (by kernel_rfl) rfl rfl ?_
      refine wp_call_to (some 68) rfl 25 #[.pointer (some ⟨b, 0, none⟩), .int .i64 o.slot, .int .i64 o.at_, .slice o.a o.n o.c] (by go_simp) ((by have h := setYes HP2.out k r HR.out o.at_.toNat o.a o.n o.c o.l HB1.out (by omega); rw [← HK.out, Int.toNat_of_nonneg hat.1] at h; exact h)) ?_
      rintro e W3 ⟨rfl, hp3, f3⟩
      have hs3 := f3.size
      have hnF : ∀ q, w.heap.size ≤ q → ¬ F q := fun q hq h => by have := HLO.out q h; omega
      have HBX3 := HBX2.out.fr f3 (hnF _ (by omega)) (hnF _ (by omega)) (hnF _ (by omega))
      have HT3 := HT2.out.fr f3 (hnF _ (by omega))
      have HO3 := hide (HO2.out.fr f3 (fun q hq => hnF q (by have := HR1.out q hq; omega)))
      have HF3 := hide ((HF2.out.trans f3).mono (Y := F) (fun q hq h => by rcases h with h | h; exact h.elim; exact h))
      have HP3 := hide hp3
      have hS3 := And.intro (And.intro HT3.1 HT3.2.1) (And.intro HBX3.c1 (And.intro HBX3.c2 HBX3.c3))
      have HNF := hide hnF
      clear hnF hp3 f3
      refine ⟨_, rfl, fun _ => hS3, ?_⟩
      simp only [Act.put, List.setIfInBounds_toArray, List.set_cons_zero, List.set_cons_succ]
      refine wpAnyK_takeTo 10 (some 70) (.bool true) [] rfl rfl (by kernel_rfl) (by kernel_rfl) (by kernel_rfl) (by kernel_rfl) (fun _ _ _ h => h) hS3 (Or.inl ⟨rfl, fun w1 hw1 => by go_simp⟩) ?_
      simp only [Act.put, List.setIfInBounds_toArray, List.set_cons_zero, List.set_cons_succ]
      obtain ⟨rx, ry, htr⟩ := HBX3.tr
      have r0 : W3.cell? ⟨gb + 1 + 1, 0, none⟩ = some rx := htr.1
      have r1 : W3.cell? ⟨gb + 1 + 1, 1, none⟩ = some ry := htr.2.1
      have z0 : W3.frozen? ⟨gb + 1 + 1, 0, none⟩ = false := htr.2.2 0
      have z1 : W3.frozen? ⟨gb + 1 + 1, 1, none⟩ = false := htr.2.2 1
      have HTR := hide ((htr.set0 (.slice va1 R.length vc1)).set1 (.int .i64 m))
      refine wpAnyK_one (i := 11) (by kernel_rfl) rfl rfl ?_
      go_simp
      have FS : Fr W3 ((W3.setCell ⟨gb + 1 + 1, 0, none⟩ (.slice va1 R.length vc1)).setCell ⟨gb + 1 + 1, 1, none⟩ (.int .i64 m)) (fun q => q = gb + 2) := ((Fr.setCell W3 ⟨gb + 1 + 1, 0, none⟩ (.slice va1 R.length vc1)).trans (Fr.setCell _ ⟨gb + 1 + 1, 1, none⟩ (.int .i64 m))).mono (fun q _ h => by rcases h with h | h <;> exact h)
      have hb4 := HBX3.tp
      have hT4 := HT3.fr FS (by omega)
      have e4 : ∀ j u, W3.cell? ⟨gb + 1, j, none⟩ = some u → ((W3.setCell ⟨gb + 1 + 1, 0, none⟩ (.slice va1 R.length vc1)).setCell ⟨gb + 1 + 1, 1, none⟩ (.int .i64 m)).cell? ⟨gb + 1, j, none⟩ = some u := fun j u hu => by rw [World.cell?_of_block (w := W3) (FS.block (gb + 1) (World.block_lt_of_cell? W3 _ hu) (by omega))]; exact hu
      have hS4 := And.intro (And.intro hT4.1 hT4.2.1) (And.intro (e4 _ _ HBX3.c1) (And.intro (e4 _ _ HBX3.c2) (e4 _ _ HBX3.c3)))
      clear e4 hT4 hb4 FS
      refine wpAnyK_takeTo 12 (some 7) (.bool true) [] rfl rfl (by kernel_rfl) (by kernel_rfl) (by kernel_rfl) (by kernel_rfl) (fun _ _ _ h => h) hS4 (Or.inl ⟨rfl, fun w1 hw1 => by go_simp⟩) ?_
      simp only [Act.put, List.setIfInBounds_toArray, List.set_cons_zero, List.set_cons_succ]
      refine wpAnyK_done (by kernel_rfl) ?_ _
      clear hS4 hS3
      go_wp2
      refine bodyPost_ret (results_pair Try.results13 _ _ (gb + 1 + 1) HTR.out rfl) rfl ?_
      refine step_fin HP3.out HO3.out (fun q hq => ⟨.inl hq, ?_, ?_⟩) (fun q hq => ?_) HF3.out hbw _ _
      · have := HLO.out q hq; have := HF3.out.size; omega
      · have := HLO.out q hq; omega
      · have h3 := HR1.out q hq
        exact ⟨.inr (by omega), HNF.out q (by omega), by omega⟩
    · refine ((by have h := rset_out W0 _ R m o.l HS.out.own k r HR.out (HFT.out.each r (List.mem_of_getElem? HR.out)) hcnt o.at_ (by omega) (by omega); rw [← HK.out] at h; exact h : Calls Try.prog 33 _ W0 _)).mono ?_
      rintro e W1 ⟨rfl, f1⟩
      have HO1 := hide (HS.out.own.fr f1 (fun _ _ h => h))
      have HBX1 := hide (HBX.out.fr f1 (fun h => h) (fun h => h) (fun h => h))
      have HS1 := hide (HS.out.page.keep f1)
      have HLO := hide HS0.out.low
      have HF1 := hide ((HF0.out.trans f1).mono (Y := fun _ => False) (by simp))
      have hs1 : gb + 3 ≤ W1.heap.size := by have := f1.size; omega
      have FB := (Fr.alloc W1 (.cells #[.slice va R.length vc, .int .i64 m] 28) (fun _ => False)).trans (Fr.drew _ (fun _ => False))
      have FB' : Fr W1 (W1.alloc (.cells #[.slice va R.length vc, .int .i64 m] 28)).drew (fun _ => False) := FB.mono (by simp)
      have HB1 := hide ((HB0.out.fr f1 (fun _ _ _ _ h => h)).fr FB' (fun _ _ _ _ h => h))
      have HBX2 := hide (HBX1.out.fr FB' (fun h => h) (fun h => h) (fun h => h))
      have HT2 := hide ((two_of (heap_alloc_new W1 (.cells #[.slice va R.length vc, .int .i64 m] 28))).fr (Fr.drew _ (fun _ => False)) (fun h => h))
      have HF2 := hide ((HF1.out.trans FB').mono (Y := fun _ => False) (by simp))
      have HP2 := hide (HS1.out.keep FB')
      have HO2 := hide (HO1.out.fr FB' (fun _ _ h => h))
      have hs2 : (W1.alloc (.cells #[.slice va R.length vc, .int .i64 m] 28)).drew.heap.size = W1.heap.size + 1 := by simp [World.drew]
      clear HS HBX HB0 HF0 f1 FB FB' HBX1 HS1 HF1 HO1
      go_wp2_with fail
      refine wp_region_K (fun _ => true) (fun V => (V.cell? ⟨W1.heap.size, 0, none⟩ = some (.slice va R.length vc) ∧ V.cell? ⟨W1.heap.size, 1, none⟩ = some (.int .i64 m)) ∧ V.cell? ⟨gb + 1, 1, none⟩ = some (.int .i64 o.slot) ∧ V.cell? ⟨gb + 1, 2, none⟩ = some (.int .i64 o.at_) ∧ V.cell? ⟨gb + 1, 3, none⟩ = some (.slice o.a o.n o.c)) (by kernel_rfl) ?_
      generalize (W1.alloc (.cells #[.slice va R.length vc, .int .i64 m] 28)).drew = W2 at *
      have hS := And.intro (And.intro HT2.out.1 HT2.out.2.1) (And.intro HBX2.out.c1 (And.intro HBX2.out.c2 HBX2.out.c3))
      refine wpAnyK_takeTo 0 (some 60) (.agg #[.slice va R.length vc, .int .i64 m]) [] rfl rfl (by kernel_rfl) (by kernel_rfl) (by kernel_rfl) (by kernel_rfl) (fun _ _ _ h => h) hS (Or.inl ⟨rfl, fun w1 hw1 => by obtain ⟨⟨g0, g1⟩, g2, g3, g4⟩ := hw1; go_simp⟩) ?_
      simp only [Act.put, List.setIfInBounds_toArray, List.set_cons_zero, List.set_cons_succ]
      refine wpAnyK_takeTo 1 (some 61) (.pointer (some ⟨b, 0, none⟩)) [] rfl rfl (by kernel_rfl) (by kernel_rfl) (by kernel_rfl) (by kernel_rfl) (fun _ _ _ h => h) hS (Or.inl ⟨rfl, fun w1 hw1 => by go_simp⟩) ?_
      simp only [Act.put, List.setIfInBounds_toArray, List.set_cons_zero, List.set_cons_succ]
      refine wpAnyK_takeTo 2 (some 62) (.pointer (some ⟨gb + 1, 1, none⟩)) [] rfl rfl (by kernel_rfl) (by kernel_rfl) (by kernel_rfl) (by kernel_rfl) (fun _ _ _ h => h) hS (Or.inl ⟨rfl, fun w1 hw1 => by go_simp⟩) ?_
      simp only [Act.put, List.setIfInBounds_toArray, List.set_cons_zero, List.set_cons_succ]
      refine wpAnyK_takeTo 3 (some 63) (.int .i64 o.slot) [] rfl rfl (by kernel_rfl) (by kernel_rfl) (by kernel_rfl) (by kernel_rfl) (fun _ _ _ h => h) hS (Or.inl ⟨rfl, fun w1 hw1 => by obtain ⟨⟨g0, g1⟩, g2, g3, g4⟩ := hw1; go_simp⟩) ?_
      simp only [Act.put, List.setIfInBounds_toArray, List.set_cons_zero, List.set_cons_succ]
      refine wpAnyK_takeTo 4 (some 64) (.pointer (some ⟨gb + 1, 2, none⟩)) [] rfl rfl (by kernel_rfl) (by kernel_rfl) (by kernel_rfl) (by kernel_rfl) (fun _ _ _ h => h) hS (Or.inl ⟨rfl, fun w1 hw1 => by go_simp⟩) ?_
      simp only [Act.put, List.setIfInBounds_toArray, List.set_cons_zero, List.set_cons_succ]
      refine wpAnyK_takeTo 5 (some 65) (.int .i64 o.at_) [] rfl rfl (by kernel_rfl) (by kernel_rfl) (by kernel_rfl) (by kernel_rfl) (fun _ _ _ h => h) hS (Or.inl ⟨rfl, fun w1 hw1 => by obtain ⟨⟨g0, g1⟩, g2, g3, g4⟩ := hw1; go_simp⟩) ?_
      simp only [Act.put, List.setIfInBounds_toArray, List.set_cons_zero, List.set_cons_succ]
      refine wpAnyK_takeTo 6 (some 66) (.pointer (some ⟨gb + 1, 3, none⟩)) [] rfl rfl (by kernel_rfl) (by kernel_rfl) (by kernel_rfl) (by kernel_rfl) (fun _ _ _ h => h) hS (Or.inl ⟨rfl, fun w1 hw1 => by go_simp⟩) ?_
      simp only [Act.put, List.setIfInBounds_toArray, List.set_cons_zero, List.set_cons_succ]
      refine wpAnyK_takeTo 7 (some 67) (.slice o.a o.n o.c) [] rfl rfl (by kernel_rfl) (by kernel_rfl) (by kernel_rfl) (by kernel_rfl) (fun _ _ _ h => h) hS (Or.inl ⟨rfl, fun w1 hw1 => by obtain ⟨⟨g0, g1⟩, g2, g3, g4⟩ := hw1; go_simp⟩) ?_
      simp only [Act.put, List.setIfInBounds_toArray, List.set_cons_zero, List.set_cons_succ]
      refine wpAnyK_takeTo 9 (some 69) (.int .i64 1) [] rfl rfl (by kernel_rfl) (by kernel_rfl) (by kernel_rfl) (by kernel_rfl) (fun _ _ _ h => h) hS (Or.inl ⟨rfl, fun w1 hw1 => by go_simp⟩) ?_
      simp only [Act.put, List.setIfInBounds_toArray, List.set_cons_zero, List.set_cons_succ]
      refine wpAnyK_one (i := 8) (by kernel_rfl) rfl rfl ?_
      refine wp_call_to (some 68) rfl 25 #[.pointer (some ⟨b, 0, none⟩), .int .i64 o.slot, .int .i64 o.at_, .slice o.a o.n o.c] (by go_simp) ((by have h := setOut HP2.out k r HR.out o.at_ o.a o.n o.c (by omega) (by omega); rw [← HK.out] at h; exact h)) ?_
      rintro e W3 ⟨rfl, hw⟩
      subst hw
      have hS3 := hS
      have HBX3 := HBX2.out
      have HT3 := HT2.out
      refine ⟨_, rfl, fun _ => hS3, ?_⟩
      simp only [Act.put, List.setIfInBounds_toArray, List.set_cons_zero, List.set_cons_succ]
      refine wpAnyK_takeTo 10 (some 70) (.bool true) [] rfl rfl (by kernel_rfl) (by kernel_rfl) (by kernel_rfl) (by kernel_rfl) (fun _ _ _ h => h) hS3 (Or.inl ⟨rfl, fun w1 hw1 => by go_simp⟩) ?_
      simp only [Act.put, List.setIfInBounds_toArray, List.set_cons_zero, List.set_cons_succ]
      obtain ⟨rx, ry, htr⟩ := HBX3.tr
      have r0 : W3.cell? ⟨gb + 1 + 1, 0, none⟩ = some rx := htr.1
      have r1 : W3.cell? ⟨gb + 1 + 1, 1, none⟩ = some ry := htr.2.1
      have z0 : W3.frozen? ⟨gb + 1 + 1, 0, none⟩ = false := htr.2.2 0
      have z1 : W3.frozen? ⟨gb + 1 + 1, 1, none⟩ = false := htr.2.2 1
      have HTR := hide ((htr.set0 (.slice va R.length vc)).set1 (.int .i64 m))
      refine wpAnyK_one (i := 11) (by kernel_rfl) rfl rfl ?_
      go_simp
      have FS : Fr W3 ((W3.setCell ⟨gb + 1 + 1, 0, none⟩ (.slice va R.length vc)).setCell ⟨gb + 1 + 1, 1, none⟩ (.int .i64 m)) (fun q => q = gb + 2) := ((Fr.setCell W3 ⟨gb + 1 + 1, 0, none⟩ (.slice va R.length vc)).trans (Fr.setCell _ ⟨gb + 1 + 1, 1, none⟩ (.int .i64 m))).mono (fun q _ h => by rcases h with h | h <;> exact h)
      have hb4 := HBX3.tp
      have hT4 := HT3.fr FS (by omega)
      have e4 : ∀ j u, W3.cell? ⟨gb + 1, j, none⟩ = some u → ((W3.setCell ⟨gb + 1 + 1, 0, none⟩ (.slice va R.length vc)).setCell ⟨gb + 1 + 1, 1, none⟩ (.int .i64 m)).cell? ⟨gb + 1, j, none⟩ = some u := fun j u hu => by rw [World.cell?_of_block (w := W3) (FS.block (gb + 1) (World.block_lt_of_cell? W3 _ hu) (by omega))]; exact hu
      have hS4 := And.intro (And.intro hT4.1 hT4.2.1) (And.intro (e4 _ _ HBX3.c1) (And.intro (e4 _ _ HBX3.c2) (e4 _ _ HBX3.c3)))
      clear e4 hT4 hb4 FS
      refine wpAnyK_takeTo 12 (some 7) (.bool true) [] rfl rfl (by kernel_rfl) (by kernel_rfl) (by kernel_rfl) (by kernel_rfl) (fun _ _ _ h => h) hS4 (Or.inl ⟨rfl, fun w1 hw1 => by go_simp⟩) ?_
      simp only [Act.put, List.setIfInBounds_toArray, List.set_cons_zero, List.set_cons_succ]
      refine wpAnyK_done (by kernel_rfl) ?_ _
      clear hS4 hS3
      go_wp2
      refine bodyPost_ret (results_pair Try.results13 _ _ (gb + 1 + 1) HTR.out rfl) rfl ?_
      exact step_same HS0.out HF2.out hbw _ _
  · refine (rset_no W0 _ R m o.l HS.out.own o.slot o.at_ (by omega) (by omega) hcnt).mono ?_
    rintro e W1 ⟨rfl, f1⟩
    have HO1 := hide (HS.out.own.fr f1 (fun _ _ h => h))
    have HBX1 := hide (HBX.out.fr f1 (fun h => h) (fun h => h) (fun h => h))
    have HS1 := hide (HS.out.page.keep f1)
    have HLO := hide HS0.out.low
    have HF1 := hide ((HF0.out.trans f1).mono (Y := fun _ => False) (by simp))
    have hs1 : gb + 3 ≤ W1.heap.size := by have := f1.size; omega
    have FB := (Fr.alloc W1 (.cells #[.slice va R.length vc, .int .i64 m] 28) (fun _ => False)).trans (Fr.drew _ (fun _ => False))
    have FB' : Fr W1 (W1.alloc (.cells #[.slice va R.length vc, .int .i64 m] 28)).drew (fun _ => False) := FB.mono (by simp)
    have HB1 := hide ((HB0.out.fr f1 (fun _ _ _ _ h => h)).fr FB' (fun _ _ _ _ h => h))
    have HBX2 := hide (HBX1.out.fr FB' (fun h => h) (fun h => h) (fun h => h))
    have HT2 := hide ((two_of (heap_alloc_new W1 (.cells #[.slice va R.length vc, .int .i64 m] 28))).fr (Fr.drew _ (fun _ => False)) (fun h => h))
    have HF2 := hide ((HF1.out.trans FB').mono (Y := fun _ => False) (by simp))
    have HP2 := hide (HS1.out.keep FB')
    have HO2 := hide (HO1.out.fr FB' (fun _ _ h => h))
    have hs2 : (W1.alloc (.cells #[.slice va R.length vc, .int .i64 m] 28)).drew.heap.size = W1.heap.size + 1 := by simp [World.drew]
    clear HS HBX HB0 HF0 f1 FB FB' HBX1 HS1 HF1 HO1
    go_wp2_with fail
    refine wp_region_K (fun _ => true) (fun V => (V.cell? ⟨W1.heap.size, 0, none⟩ = some (.slice va R.length vc) ∧ V.cell? ⟨W1.heap.size, 1, none⟩ = some (.int .i64 m)) ∧ V.cell? ⟨gb + 1, 1, none⟩ = some (.int .i64 o.slot) ∧ V.cell? ⟨gb + 1, 2, none⟩ = some (.int .i64 o.at_) ∧ V.cell? ⟨gb + 1, 3, none⟩ = some (.slice o.a o.n o.c)) (by kernel_rfl) ?_
    generalize (W1.alloc (.cells #[.slice va R.length vc, .int .i64 m] 28)).drew = W2 at *
    have hS := And.intro (And.intro HT2.out.1 HT2.out.2.1) (And.intro HBX2.out.c1 (And.intro HBX2.out.c2 HBX2.out.c3))
    refine wpAnyK_takeTo 0 (some 60) (.agg #[.slice va R.length vc, .int .i64 m]) [] rfl rfl (by kernel_rfl) (by kernel_rfl) (by kernel_rfl) (by kernel_rfl) (fun _ _ _ h => h) hS (Or.inl ⟨rfl, fun w1 hw1 => by obtain ⟨⟨g0, g1⟩, g2, g3, g4⟩ := hw1; go_simp⟩) ?_
    simp only [Act.put, List.setIfInBounds_toArray, List.set_cons_zero, List.set_cons_succ]
    refine wpAnyK_takeTo 1 (some 61) (.pointer (some ⟨b, 0, none⟩)) [] rfl rfl (by kernel_rfl) (by kernel_rfl) (by kernel_rfl) (by kernel_rfl) (fun _ _ _ h => h) hS (Or.inl ⟨rfl, fun w1 hw1 => by go_simp⟩) ?_
    simp only [Act.put, List.setIfInBounds_toArray, List.set_cons_zero, List.set_cons_succ]
    refine wpAnyK_takeTo 2 (some 62) (.pointer (some ⟨gb + 1, 1, none⟩)) [] rfl rfl (by kernel_rfl) (by kernel_rfl) (by kernel_rfl) (by kernel_rfl) (fun _ _ _ h => h) hS (Or.inl ⟨rfl, fun w1 hw1 => by go_simp⟩) ?_
    simp only [Act.put, List.setIfInBounds_toArray, List.set_cons_zero, List.set_cons_succ]
    refine wpAnyK_takeTo 3 (some 63) (.int .i64 o.slot) [] rfl rfl (by kernel_rfl) (by kernel_rfl) (by kernel_rfl) (by kernel_rfl) (fun _ _ _ h => h) hS (Or.inl ⟨rfl, fun w1 hw1 => by obtain ⟨⟨g0, g1⟩, g2, g3, g4⟩ := hw1; go_simp⟩) ?_
    simp only [Act.put, List.setIfInBounds_toArray, List.set_cons_zero, List.set_cons_succ]
    refine wpAnyK_takeTo 4 (some 64) (.pointer (some ⟨gb + 1, 2, none⟩)) [] rfl rfl (by kernel_rfl) (by kernel_rfl) (by kernel_rfl) (by kernel_rfl) (fun _ _ _ h => h) hS (Or.inl ⟨rfl, fun w1 hw1 => by go_simp⟩) ?_
    simp only [Act.put, List.setIfInBounds_toArray, List.set_cons_zero, List.set_cons_succ]
    refine wpAnyK_takeTo 5 (some 65) (.int .i64 o.at_) [] rfl rfl (by kernel_rfl) (by kernel_rfl) (by kernel_rfl) (by kernel_rfl) (fun _ _ _ h => h) hS (Or.inl ⟨rfl, fun w1 hw1 => by obtain ⟨⟨g0, g1⟩, g2, g3, g4⟩ := hw1; go_simp⟩) ?_
    simp only [Act.put, List.setIfInBounds_toArray, List.set_cons_zero, List.set_cons_succ]
    refine wpAnyK_takeTo 6 (some 66) (.pointer (some ⟨gb + 1, 3, none⟩)) [] rfl rfl (by kernel_rfl) (by kernel_rfl) (by kernel_rfl) (by kernel_rfl) (fun _ _ _ h => h) hS (Or.inl ⟨rfl, fun w1 hw1 => by go_simp⟩) ?_
    simp only [Act.put, List.setIfInBounds_toArray, List.set_cons_zero, List.set_cons_succ]
    refine wpAnyK_takeTo 7 (some 67) (.slice o.a o.n o.c) [] rfl rfl (by kernel_rfl) (by kernel_rfl) (by kernel_rfl) (by kernel_rfl) (fun _ _ _ h => h) hS (Or.inl ⟨rfl, fun w1 hw1 => by obtain ⟨⟨g0, g1⟩, g2, g3, g4⟩ := hw1; go_simp⟩) ?_
    simp only [Act.put, List.setIfInBounds_toArray, List.set_cons_zero, List.set_cons_succ]
    refine wpAnyK_takeTo 9 (some 69) (.int .i64 4) [] rfl rfl (by kernel_rfl) (by kernel_rfl) (by kernel_rfl) (by kernel_rfl) (fun _ _ _ h => h) hS (Or.inl ⟨rfl, fun w1 hw1 => by go_simp⟩) ?_
    simp only [Act.put, List.setIfInBounds_toArray, List.set_cons_zero, List.set_cons_succ]
    refine wpAnyK_one (i := 8) (by kernel_rfl) rfl rfl ?_
    refine wp_call_to (some 68) rfl 25 #[.pointer (some ⟨b, 0, none⟩), .int .i64 o.slot, .int .i64 o.at_, .slice o.a o.n o.c] (by go_simp) (setNo HP2.out o.slot (by rw [decide_eq_false_iff_not]; exact hsl) o.at_ (.slice o.a o.n o.c)) ?_
    rintro e W3 ⟨rfl, hw⟩
    subst hw
    have hS3 := hS
    have HBX3 := HBX2.out
    have HT3 := HT2.out
    refine ⟨_, rfl, fun _ => hS3, ?_⟩
    simp only [Act.put, List.setIfInBounds_toArray, List.set_cons_zero, List.set_cons_succ]
    refine wpAnyK_takeTo 10 (some 70) (.bool true) [] rfl rfl (by kernel_rfl) (by kernel_rfl) (by kernel_rfl) (by kernel_rfl) (fun _ _ _ h => h) hS3 (Or.inl ⟨rfl, fun w1 hw1 => by go_simp⟩) ?_
    simp only [Act.put, List.setIfInBounds_toArray, List.set_cons_zero, List.set_cons_succ]
    obtain ⟨rx, ry, htr⟩ := HBX3.tr
    have r0 : W3.cell? ⟨gb + 1 + 1, 0, none⟩ = some rx := htr.1
    have r1 : W3.cell? ⟨gb + 1 + 1, 1, none⟩ = some ry := htr.2.1
    have z0 : W3.frozen? ⟨gb + 1 + 1, 0, none⟩ = false := htr.2.2 0
    have z1 : W3.frozen? ⟨gb + 1 + 1, 1, none⟩ = false := htr.2.2 1
    have HTR := hide ((htr.set0 (.slice va R.length vc)).set1 (.int .i64 m))
    refine wpAnyK_one (i := 11) (by kernel_rfl) rfl rfl ?_
    go_simp
    have FS : Fr W3 ((W3.setCell ⟨gb + 1 + 1, 0, none⟩ (.slice va R.length vc)).setCell ⟨gb + 1 + 1, 1, none⟩ (.int .i64 m)) (fun q => q = gb + 2) := ((Fr.setCell W3 ⟨gb + 1 + 1, 0, none⟩ (.slice va R.length vc)).trans (Fr.setCell _ ⟨gb + 1 + 1, 1, none⟩ (.int .i64 m))).mono (fun q _ h => by rcases h with h | h <;> exact h)
    have hb4 := HBX3.tp
    have hT4 := HT3.fr FS (by omega)
    have e4 : ∀ j u, W3.cell? ⟨gb + 1, j, none⟩ = some u → ((W3.setCell ⟨gb + 1 + 1, 0, none⟩ (.slice va R.length vc)).setCell ⟨gb + 1 + 1, 1, none⟩ (.int .i64 m)).cell? ⟨gb + 1, j, none⟩ = some u := fun j u hu => by rw [World.cell?_of_block (w := W3) (FS.block (gb + 1) (World.block_lt_of_cell? W3 _ hu) (by omega))]; exact hu
    have hS4 := And.intro (And.intro hT4.1 hT4.2.1) (And.intro (e4 _ _ HBX3.c1) (And.intro (e4 _ _ HBX3.c2) (e4 _ _ HBX3.c3)))
    clear e4 hT4 hb4 FS
    refine wpAnyK_takeTo 12 (some 7) (.bool true) [] rfl rfl (by kernel_rfl) (by kernel_rfl) (by kernel_rfl) (by kernel_rfl) (fun _ _ _ h => h) hS4 (Or.inl ⟨rfl, fun w1 hw1 => by go_simp⟩) ?_
    simp only [Act.put, List.setIfInBounds_toArray, List.set_cons_zero, List.set_cons_succ]
    refine wpAnyK_done (by kernel_rfl) ?_ _
    clear hS4 hS3
    go_wp2
    refine bodyPost_ret (results_pair Try.results13 _ _ (gb + 1 + 1) HTR.out rfl) rfl ?_
    exact step_same HS0.out HF2.out hbw _ _
end Go.Proofs.Ytnkjknlacmeloaa
