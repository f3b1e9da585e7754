/- One call at the page and at the document's: a record read, the mark set, no call. -/
import Derived.Test.YtnkjknlacmeloaaSb
namespace Go.Proofs.Ytnkjknlacmeloaa
open Go.RowKit
set_option linter.unusedVariables false

set_option maxRecDepth 100000 in
set_option maxHeartbeats 2000000 in
theorem step_get (w : World) (b : Nat) (F : Nat → Prop) (R : List (List UInt8)) (m : Int) (v : Value) (o : POp) (hs : St w b F R m v) (hok : OpOk w o) :
    Calls Try.prog 13 #[.pointer (some ⟨b, 0, none⟩), .agg #[v, .int .i64 m], .agg #[.int .i64 2, .int .i64 o.slot, .int .i64 o.at_, .slice o.a o.n o.c, .int .i64 o.mark]] w (StepPost w b F v) := by
  have HS := hide (hs.keep (bx0_fr w v m 2 o))
  have HS0 := hide hs
  have HBX := hide (bx0_boxes w v m 2 o)
  have HB0 := hide (hok.bytes.fr (bx0_fr w v m 2 o) (fun _ _ _ _ h => h))
  have HF0 := hide (bx0_fr w v m 2 o)
  have hsz := bx0_size w v m 2 o
  have hcv := run_string (bx0 w v m 2 o) o.a o.n o.c o.l HB0.out.bin
  have hnl := hok.len
  have hll := hok.bytes.1
  have hfit := hs.page.fits
  have hcnt := hfit.count
  have HFT := hide hfit
  have HOK := hide hok
  obtain ⟨va, vc, rfl, _⟩ := hs.own.shape
  clear hs hok hfit
  unfold bx0 at hcv
  have hsb := HOK.out.slot
  go_enter Try.func13, Try.ntmps13
  go_wp2_with fail
  change Calls Try.prog 22 _ (bx0 w (.slice va R.length vc) m 2 o) _
  obtain ⟨W0, hW0⟩ : ∃ W0, W0 = bx0 w (.slice va R.length vc) m 2 o := ⟨_, rfl⟩
  obtain ⟨gb, hgb⟩ : ∃ gb, gb = w.heap.size := ⟨_, rfl⟩
  rw [← hW0] at HS HBX HB0 HF0 hsz ⊢
  rw [← hgb] at HBX hsz ⊢
  have hbw : w.heap.size ≤ gb := by omega
  clear hcv hW0 hgb
  by_cases hsl : 0 ≤ o.slot ∧ o.slot < R.length
  · obtain ⟨k, hk⟩ : ∃ k : Nat, o.slot = k := ⟨o.slot.toNat, by omega⟩
    obtain ⟨r, hr⟩ : ∃ r, R[k]? = some r := ⟨_, List.getElem?_eq_getElem (by omega)⟩
    have hrl := HFT.out.each r (List.mem_of_getElem? hr)
    refine (getYes HS.out.page o.slot k r hk hr).mono ?_
    rintro e W1 ⟨rfl, hg1, f1, hs1⟩
    rw [hsz] at hg1 hs1 ⊢
    have hgvw : ∀ q, (Value.slice va R.length vc).ownBlock = some q → q < w.heap.size := fun q hq => (HS0.out.own.lt q hq).2
    have HBX1 := HBX.out.fr f1 (fun h => h) (fun h => h) (fun h => h)
    have HF1 := hide ((HF0.out.trans f1).mono (Y := fun _ => False) (by simp))
    obtain ⟨gv, hgv, hcv⟩ := (HS.out.own.fr f1 (fun _ _ h => h)).at k r hr
    subst hgv
    have HB1 := hide (BI.recd hg1)
    have p0 := HBX1.tp.1
    have p1 := HBX1.tp.2.1
    have b1 := HBX1.c1
    obtain ⟨rx, ry, htr⟩ := HBX1.tr
    have r0 : W1.cell? ⟨gb + 1 + 1, 0, none⟩ = some rx := htr.1
    have r1 : W1.cell? ⟨gb + 1 + 1, 1, none⟩ = some ry := htr.2.1
    have z0 : W1.frozen? ⟨gb + 1 + 1, 0, none⟩ = false := htr.2.2 0
    have z1 : W1.frozen? ⟨gb + 1 + 1, 1, none⟩ = false := htr.2.2 1
    have HTR := hide (((htr.fr (Fr.drew W1 (fun _ => False)) (fun h => h)).set0 (.slice (some ⟨gv, 0, none⟩) R.length vc)).set1 (.int .i64 m))
    have HBX1h := hide HBX1
    have hn1 : ¬ o.slot < 0 := by omega
    have hn2 : ¬ (R.length : Int) ≤ o.slot := by omega
    have hkb : (o.slot.toNat) = k := by omega
    have HK := hide hk
    have HG := hide (And.intro hr hcv)
    unfold recV
    clear htr HBX1 f1 hg1 HBX HS HB0 HF0 hk hr hcv
    go_wp2_with fail
    have hcv := HG.out.2
    refine wp_region_K (fun _ => true) (fun V => (V.cell? ⟨gb, 0, none⟩ = some (.slice (some ⟨gv, 0, none⟩) R.length vc) ∧ V.cell? ⟨gb, 1, none⟩ = some (.int .i64 m)) ∧ V.cell? ⟨gb + 1, 1, none⟩ = some (.int .i64 o.slot) ∧ V.cell? ⟨gv, k, none⟩ = some (.string (strOf r)) ∧ BI V (some ⟨gb + 3, 0, none⟩) r.length r) (by kernel_rfl) ?_
    have hS : (W1.drew.cell? ⟨gb, 0, none⟩ = some (.slice (some ⟨gv, 0, none⟩) R.length vc) ∧ W1.drew.cell? ⟨gb, 1, none⟩ = some (.int .i64 m)) ∧ W1.drew.cell? ⟨gb + 1, 1, none⟩ = some (.int .i64 o.slot) ∧ W1.drew.cell? ⟨gv, k, none⟩ = some (.string (strOf r)) ∧ BI W1.drew (some ⟨gb + 3, 0, none⟩) r.length r := ⟨⟨by simpa using p0, by simpa using p1⟩, by simpa using b1, by simpa using hcv, HB1.out.fr (Fr.drew W1 (fun _ => False)) (fun _ _ _ _ h => h)⟩
    refine wpAnyK_takeTo 0 (some 99) (.agg #[.slice (some ⟨gv, 0, none⟩) R.length vc, .int .i64 m]) [] rfl rfl (by kernel_rfl) (by kernel_rfl) (by kernel_rfl) (by kernel_rfl) (fun _ _ _ h => h) hS (Or.inl ⟨rfl, fun w1 hw1 => by obtain ⟨⟨g0, g1⟩, g2, g3, g4⟩ := hw1; go_simp⟩) ?_
    simp only [Act.put, List.setIfInBounds_toArray, List.set_cons_zero, List.set_cons_succ]
    refine wpAnyK_takeTo 1 (some 100) (.int .i64 0) [] rfl rfl (by kernel_rfl) (by kernel_rfl) (by kernel_rfl) (by kernel_rfl) (fun _ _ _ h => h) hS (Or.inl ⟨rfl, fun w1 hw1 => by go_simp⟩) ?_
    simp only [Act.put, List.setIfInBounds_toArray, List.set_cons_zero, List.set_cons_succ]
    refine wpAnyK_takeTo 2 (some 101) (.bool true) [] rfl rfl (by kernel_rfl) (by kernel_rfl) (by kernel_rfl) (by kernel_rfl) (fun _ _ _ h => h) hS (Or.inl ⟨rfl, fun w1 hw1 => by go_simp⟩) ?_
    simp only [Act.put, List.setIfInBounds_toArray, List.set_cons_zero, List.set_cons_succ]
    refine wpAnyK_takeTo 3 (some 102) (.bool true) [] rfl rfl (by kernel_rfl) (by kernel_rfl) (by kernel_rfl) (by kernel_rfl) (fun _ _ _ h => h) hS (Or.inl ⟨rfl, fun w1 hw1 => by go_simp⟩) ?_
    simp only [Act.put, List.setIfInBounds_toArray, List.set_cons_zero, List.set_cons_succ]
    refine wpAnyK_takeTo 4 (some 103) (.slice (some ⟨gb + 3, 0, none⟩) r.length r.length) [] rfl rfl (by kernel_rfl) (by kernel_rfl) (by kernel_rfl) (by kernel_rfl) (fun _ _ _ h => h) hS (Or.inl ⟨rfl, fun w1 hw1 => by go_simp⟩) ?_
    simp only [Act.put, List.setIfInBounds_toArray, List.set_cons_zero, List.set_cons_succ]
    refine wpAnyK_takeTo 5 (some 104) (.string (strOf r)) [] rfl rfl (by kernel_rfl) (by kernel_rfl) (by kernel_rfl) (by kernel_rfl) (fun _ _ _ h => h) hS (Or.inl ⟨rfl, fun w1 hw1 => by have hrs := run_string w1 (some ⟨gb + 3, 0, none⟩) r.length r.length r hw1.2.2.2.bin; go_simp⟩) ?_
    simp only [Act.put, List.setIfInBounds_toArray, List.set_cons_zero, List.set_cons_succ]
    refine wpAnyK_takeTo 6 (some 105) (.pointer (some ⟨gb, 0, none⟩)) [] rfl rfl (by kernel_rfl) (by kernel_rfl) (by kernel_rfl) (by kernel_rfl) (fun _ _ _ h => h) hS (Or.inl ⟨rfl, fun w1 hw1 => by go_simp⟩) ?_
    simp only [Act.put, List.setIfInBounds_toArray, List.set_cons_zero, List.set_cons_succ]
    refine wpAnyK_takeTo 7 (some 106) (.slice (some ⟨gv, 0, none⟩) R.length vc) [] rfl rfl (by kernel_rfl) (by kernel_rfl) (by kernel_rfl) (by kernel_rfl) (fun _ _ _ h => h) hS (Or.inl ⟨rfl, fun w1 hw1 => by obtain ⟨⟨g0, g1⟩, g2, g3, g4⟩ := hw1; go_simp⟩) ?_
    simp only [Act.put, List.setIfInBounds_toArray, List.set_cons_zero, List.set_cons_succ]
    refine wpAnyK_takeTo 8 (some 107) (.pointer (some ⟨gb + 1, 1, none⟩)) [] rfl rfl (by kernel_rfl) (by kernel_rfl) (by kernel_rfl) (by kernel_rfl) (fun _ _ _ h => h) hS (Or.inl ⟨rfl, fun w1 hw1 => by go_simp⟩) ?_
    simp only [Act.put, List.setIfInBounds_toArray, List.set_cons_zero, List.set_cons_succ]
    refine wpAnyK_takeTo 9 (some 108) (.int .i64 o.slot) [] rfl rfl (by kernel_rfl) (by kernel_rfl) (by kernel_rfl) (by kernel_rfl) (fun _ _ _ h => h) hS (Or.inl ⟨rfl, fun w1 hw1 => by obtain ⟨⟨g0, g1⟩, g2, g3, g4⟩ := hw1; go_simp⟩) ?_
    simp only [Act.put, List.setIfInBounds_toArray, List.set_cons_zero, List.set_cons_succ]
    refine wpAnyK_takeTo 10 (some 109) (.pointer (some ⟨gv, k, none⟩)) [] rfl rfl (by kernel_rfl) (by kernel_rfl) (by kernel_rfl) (by kernel_rfl) (fun _ _ _ h => h) hS (Or.inl ⟨rfl, fun w1 hw1 => by have hsl' := HK.out; go_simp; intro h; omega⟩) ?_
    simp only [Act.put, List.setIfInBounds_toArray, List.set_cons_zero, List.set_cons_succ]
    refine wpAnyK_takeTo 11 (some 110) (.string (strOf r)) [] rfl rfl (by kernel_rfl) (by kernel_rfl) (by kernel_rfl) (by kernel_rfl) (fun _ _ _ h => h) hS (Or.inl ⟨rfl, fun w1 hw1 => by obtain ⟨⟨g0, g1⟩, g2, g3, g4⟩ := hw1; go_simp⟩) ?_
    simp only [Act.put, List.setIfInBounds_toArray, List.set_cons_zero, List.set_cons_succ]
    refine wpAnyK_takeTo 12 (some 111) (.bool true) [] rfl rfl (by kernel_rfl) (by kernel_rfl) (by kernel_rfl) (by kernel_rfl) (fun _ _ _ h => h) hS (Or.inl ⟨rfl, fun w1 hw1 => by go_simp⟩) ?_
    simp only [Act.put, List.setIfInBounds_toArray, List.set_cons_zero, List.set_cons_succ]
    refine wpAnyK_takeTo 13 (some 112) (.bool true) [] rfl rfl (by kernel_rfl) (by kernel_rfl) (by kernel_rfl) (by kernel_rfl) (fun _ _ _ h => h) hS (Or.inl ⟨rfl, fun w1 hw1 => by go_simp⟩) ?_
    simp only [Act.put, List.setIfInBounds_toArray, List.set_cons_zero, List.set_cons_succ]
    refine wpAnyK_one (i := 14) (by kernel_rfl) rfl rfl ?_
    go_simp
    have FS : Fr W1 ((W1.setCell ⟨gb + 1 + 1, 0, none⟩ (.slice (some ⟨gv, 0, none⟩) R.length vc)).setCell ⟨gb + 1 + 1, 1, none⟩ (.int .i64 m)).drew (fun q => q = gb + 2) := (((Fr.setCell W1 ⟨gb + 1 + 1, 0, none⟩ (.slice (some ⟨gv, 0, none⟩) R.length vc)).trans (Fr.setCell _ ⟨gb + 1 + 1, 1, none⟩ (.int .i64 m))).trans (Fr.drew _ (fun _ => False))).mono (fun q _ h => by rcases h with (h | h) | h; exact h; exact h; exact h.elim)
    have hgn : gv < w.heap.size := hgvw gv rfl
    have hS4 : (((W1.setCell ⟨gb + 1 + 1, 0, none⟩ (.slice (some ⟨gv, 0, none⟩) R.length vc)).setCell ⟨gb + 1 + 1, 1, none⟩ (.int .i64 m)).drew.cell? ⟨gb, 0, none⟩ = some (.slice (some ⟨gv, 0, none⟩) R.length vc) ∧ ((W1.setCell ⟨gb + 1 + 1, 0, none⟩ (.slice (some ⟨gv, 0, none⟩) R.length vc)).setCell ⟨gb + 1 + 1, 1, none⟩ (.int .i64 m)).drew.cell? ⟨gb, 1, none⟩ = some (.int .i64 m)) ∧ ((W1.setCell ⟨gb + 1 + 1, 0, none⟩ (.slice (some ⟨gv, 0, none⟩) R.length vc)).setCell ⟨gb + 1 + 1, 1, none⟩ (.int .i64 m)).drew.cell? ⟨gb + 1, 1, none⟩ = some (.int .i64 o.slot) ∧ ((W1.setCell ⟨gb + 1 + 1, 0, none⟩ (.slice (some ⟨gv, 0, none⟩) R.length vc)).setCell ⟨gb + 1 + 1, 1, none⟩ (.int .i64 m)).drew.cell? ⟨gv, k, none⟩ = some (.string (strOf r)) ∧ BI ((W1.setCell ⟨gb + 1 + 1, 0, none⟩ (.slice (some ⟨gv, 0, none⟩) R.length vc)).setCell ⟨gb + 1 + 1, 1, none⟩ (.int .i64 m)).drew (some ⟨gb + 3, 0, none⟩) r.length r := by
      have e4 : ∀ g j u, W1.cell? ⟨g, j, none⟩ = some u → g ≠ gb + 2 → ((W1.setCell ⟨gb + 1 + 1, 0, none⟩ (.slice (some ⟨gv, 0, none⟩) R.length vc)).setCell ⟨gb + 1 + 1, 1, none⟩ (.int .i64 m)).drew.cell? ⟨g, j, none⟩ = some u := fun g j u hu hg => by rw [World.cell?_of_block (w := W1) (FS.block g (World.block_lt_of_cell? W1 _ hu) hg)]; exact hu
      refine ⟨⟨e4 _ _ _ p0 (by omega), e4 _ _ _ p1 (by omega)⟩, e4 _ _ _ b1 (by omega), e4 _ _ _ hcv (by omega), HB1.out.fr FS (fun g off hg _ h => ?_)⟩
      simp only [Option.some.injEq, Addr.mk.injEq] at hg
      omega
    refine ⟨⟨hS4.2.2.1, hS4.2.2.2⟩, ?_⟩
    refine wpAnyK_takeTo 15 (some 7) (.bool true) [] rfl rfl (by kernel_rfl) (by kernel_rfl) (by kernel_rfl) (by kernel_rfl) (fun _ _ _ h => h) hS4 (Or.inl ⟨rfl, fun w1 hw1 => by go_simp⟩) ?_
    simp only [Act.put, List.setIfInBounds_toArray, List.set_cons_zero, List.set_cons_succ]
    refine wpAnyK_done (by kernel_rfl) ?_ _
    clear hS4 hS
    go_wp2
    have HFD : Fr w W1.drew (fun _ => False) := (HF1.out.trans (Fr.drew W1 (fun _ => False))).mono (by simp)
    exact bodyPost_ret (results_pair Try.results13 _ _ (gb + 1 + 1) HTR.out rfl) rfl (step_same (W := W1.drew) HS0.out HFD hbw (.slice (some ⟨gv, 0, none⟩) R.length vc) (.int .i64 m))
  · refine (getNo HS.out.page o.slot (by rw [decide_eq_false_iff_not]; exact hsl)).mono ?_
    rintro e W1 ⟨rfl, hw⟩
    subst hw
    have HBX1 := HBX.out
    have p0 := HBX1.tp.1
    have p1 := HBX1.tp.2.1
    have b1 := HBX1.c1
    obtain ⟨rx, ry, htr⟩ := HBX1.tr
    have r0 : W1.cell? ⟨gb + 1 + 1, 0, none⟩ = some rx := htr.1
    have r1 : W1.cell? ⟨gb + 1 + 1, 1, none⟩ = some ry := htr.2.1
    have z0 : W1.frozen? ⟨gb + 1 + 1, 0, none⟩ = false := htr.2.2 0
    have z1 : W1.frozen? ⟨gb + 1 + 1, 1, none⟩ = false := htr.2.2 1
    have HTR := hide ((htr.set0 (.slice va R.length vc)).set1 (.int .i64 m))
    clear htr HBX1 HBX HS HB0
    by_cases hn1 : o.slot < 0
    · go_wp2
      exact bodyPost_ret (results_pair Try.results13 _ _ (gb + 1 + 1) HTR.out rfl) rfl (step_same HS0.out HF0.out hbw _ _)
    · have hn2 : (R.length : Int) ≤ o.slot := by omega
      go_wp2
      exact bodyPost_ret (results_pair Try.results13 _ _ (gb + 1 + 1) HTR.out rfl) rfl (step_same HS0.out HF0.out hbw _ _)

set_option maxRecDepth 100000 in
set_option maxHeartbeats 2000000 in
theorem step_mark (w : World) (b : Nat) (F : Nat → Prop) (R : List (List UInt8)) (m : Int) (v : Value) (o : POp) (hs : St w b F R m v) (hok : OpOk w o) :
    Calls Try.prog 13 #[.pointer (some ⟨b, 0, none⟩), .agg #[v, .int .i64 m], .agg #[.int .i64 3, .int .i64 o.slot, .int .i64 o.at_, .slice o.a o.n o.c, .int .i64 o.mark]] w (StepPost w b F v) := by
  have HS := hide (hs.keep (bx0_fr w v m 3 o))
  have HS0 := hide hs
  have HBX := hide (bx0_boxes w v m 3 o)
  have HB0 := hide (hok.bytes.fr (bx0_fr w v m 3 o) (fun _ _ _ _ h => h))
  have HF0 := hide (bx0_fr w v m 3 o)
  have hsz := bx0_size w v m 3 o
  have hcv := run_string (bx0 w v m 3 o) o.a o.n o.c o.l HB0.out.bin
  have hnl := hok.len
  have hll := hok.bytes.1
  have hfit := hs.page.fits
  have hcnt := hfit.count
  have HFT := hide hfit
  have HOK := hide hok
  obtain ⟨va, vc, rfl, _⟩ := hs.own.shape
  clear hs hok hfit
  unfold bx0 at hcv
  have hmb := HOK.out.mark
  go_enter Try.func13, Try.ntmps13
  go_wp2_with fail
  change Calls Try.prog 24 _ (bx0 w (.slice va R.length vc) m 3 o) _
  obtain ⟨W0, hW0⟩ : ∃ W0, W0 = bx0 w (.slice va R.length vc) m 3 o := ⟨_, rfl⟩
  obtain ⟨gb, hgb⟩ : ∃ gb, gb = w.heap.size := ⟨_, rfl⟩
  rw [← hW0] at HS HBX HB0 HF0 hsz ⊢
  rw [← hgb] at HBX hsz ⊢
  have hbw : w.heap.size ≤ gb := by omega
  clear hcv hW0 hgb
  refine (setMarkIn HS.out.page o.mark hmb).mono ?_
  rintro e W1 ⟨rfl, hp1, f1⟩
  have hs1 := f1.size
  have HLO := hide HS0.out.low
  have hnF : ∀ q, w.heap.size ≤ q → ¬ F q := fun q hq h => by have := HLO.out q h; omega
  have HBX1 := HBX.out.fr f1 (hnF _ (by omega)) (hnF _ (by omega)) (hnF _ (by omega))
  have HF1 := hide ((HF0.out.trans f1).mono (Y := F) (fun q hq h => by rcases h with h | h; exact h.elim; exact h))
  have HO1 := hide (HS.out.own.fr f1 (fun q hq h => HS0.out.apart q hq h))
  have HP1 := hide hp1
  have FM := Fr.setCell W1 ⟨gb, 1, none⟩ (.int .i64 o.mark)
  have p0 := HBX1.tp.1
  have p1 := HBX1.tp.2.1
  have y1 := HBX1.tp.2.2 1
  have b4 := HBX1.c4
  obtain ⟨rx, ry, htr⟩ := HBX1.tr
  have r0 : W1.cell? ⟨gb + 1 + 1, 0, none⟩ = some rx := htr.1
  have r1 : W1.cell? ⟨gb + 1 + 1, 1, none⟩ = some ry := htr.2.1
  have z0 : W1.frozen? ⟨gb + 1 + 1, 0, none⟩ = false := htr.2.2 0
  have z1 : W1.frozen? ⟨gb + 1 + 1, 1, none⟩ = false := htr.2.2 1
  have HTR := hide (((htr.fr FM (by show gb + 2 ≠ gb; omega)).set0 (.slice va R.length vc)).set1 (.int .i64 o.mark))
  have HF2 := hide ((HF1.out.trans FM).mono (Y := F) (fun q hq h => by rcases h with h | h; exact h; (have h : q = gb := h; omega)))
  have HP2 := hide (HP1.out.fr FM (fun q hq _ h => hnF q (by have h : q = gb := h; omega) hq))
  have HO2 := hide (HO1.out.fr FM (fun q hq h => by have h : q = gb := h; have := (HS0.out.own.lt q hq).2; omega))
  have HNF := hide hnF
  clear htr HBX1 HBX HS HB0 HF0 f1 hp1 hnF FM HF1 HP1 HO1
  go_wp2
  refine bodyPost_ret (results_pair Try.results13 _ _ (gb + 1 + 1) HTR.out rfl) rfl (step_fin HP2.out HO2.out (fun q hq => ⟨.inl hq, ?_, ?_⟩) (fun q hq => ⟨.inl hq, HS0.out.apart q hq, ?_⟩) HF2.out hbw _ _)
  · have := HLO.out q hq; have := HF2.out.size; omega
  · have := HLO.out q hq; omega
  · have := (HS0.out.own.lt q hq).2; omega

set_option maxRecDepth 100000 in
set_option maxHeartbeats 2000000 in
theorem step_other (w : World) (b : Nat) (F : Nat → Prop) (R : List (List UInt8)) (m : Int) (v : Value) (o : POp) (hs : St w b F R m v) (hok : OpOk w o) (kd : Int) (k0 : ¬ kd = 0) (k1 : ¬ kd = 1) (k2 : ¬ kd = 2) (k3 : ¬ kd = 3) :
    Calls Try.prog 13 #[.pointer (some ⟨b, 0, none⟩), .agg #[v, .int .i64 m], .agg #[.int .i64 kd, .int .i64 o.slot, .int .i64 o.at_, .slice o.a o.n o.c, .int .i64 o.mark]] w (StepPost w b F v) := by
  have HS := hide (hs.keep (bx0_fr w v m kd o))
  have HS0 := hide hs
  have HBX := hide (bx0_boxes w v m kd o)
  have HB0 := hide (hok.bytes.fr (bx0_fr w v m kd o) (fun _ _ _ _ h => h))
  have HF0 := hide (bx0_fr w v m kd o)
  have hsz := bx0_size w v m kd o
  have hcv := run_string (bx0 w v m kd o) o.a o.n o.c o.l HB0.out.bin
  have hnl := hok.len
  have hll := hok.bytes.1
  have hfit := hs.page.fits
  have hcnt := hfit.count
  have HFT := hide hfit
  have HOK := hide hok
  obtain ⟨va, vc, rfl, _⟩ := hs.own.shape
  clear hs hok hfit
  unfold bx0 at hcv
  have HTR := hide (two_of (heap_alloc_new ((w.alloc (.cells #[.slice va R.length vc, .int .i64 m] 28)).alloc (.cells #[.int .i64 kd, .int .i64 o.slot, .int .i64 o.at_, .slice o.a o.n o.c, .int .i64 o.mark] 31)) (.cells #[.slice va R.length vc, .int .i64 m] 28)))
  simp only [World.size_alloc] at HTR
  have HFIN := hide (HS0.out.same ((up_two.trans (Fr.alloc ((w.alloc (.cells #[.slice va R.length vc, .int .i64 m] 28)).alloc (.cells #[.int .i64 kd, .int .i64 o.slot, .int .i64 o.at_, .slice o.a o.n o.c, .int .i64 o.mark] 31)) (.cells #[.slice va R.length vc, .int .i64 m] 28) (fun _ => False))).mono (by simp)))
  clear hcv
  go_enter Try.func13, Try.ntmps13
  go_wp2
  exact bodyPost_ret (results_pair Try.results13 _ _ (w.heap.size + 1 + 1) HTR.out rfl) rfl HFIN.out
end Go.Proofs.Ytnkjknlacmeloaa
