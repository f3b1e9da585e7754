/- A page filled, changed, read and opened again: the walk of PagePlays. -/
import Derived.Test.YtnkjknlacmeloaaSc
namespace Go.Proofs.Ytnkjknlacmeloaa
open Go.RowKit
set_option linter.unusedVariables false

theorem OpOk.fr {W V : World} {o : POp} (h : OpOk W o) (hf : Fr W V (fun _ => False)) : OpOk V o := ⟨h.bytes.fr hf (fun _ _ _ _ h => h), h.len, h.cap, h.slot, h.at_, h.mark⟩
theorem step_any (w : World) (b : Nat) (F : Nat → Prop) (R : List (List UInt8)) (m : Int) (v : Value) (o : POp) (hs : St w b F R m v) (hok : OpOk w o) :
    Calls Try.prog 13 #[.pointer (some ⟨b, 0, none⟩), .agg #[v, .int .i64 m], .agg #[.int .i64 o.kind, .int .i64 o.slot, .int .i64 o.at_, .slice o.a o.n o.c, .int .i64 o.mark]] w (StepPost w b F v) := by
  by_cases h0 : o.kind = 0
  · rw [h0]; exact step_add w b F R m v o hs hok
  · by_cases h1 : o.kind = 1
    · rw [h1]; exact step_set w b F R m v o hs hok
    · by_cases h2 : o.kind = 2
      · rw [h2]; exact step_get w b F R m v o hs hok
      · by_cases h3 : o.kind = 3
        · rw [h3]; exact step_mark w b F R m v o hs hok
        · exact step_other w b F R m v o hs hok o.kind h0 h1 h2 h3
/-- What is asked to be kept may be made more. -/
theorem wpAnyK_more {P : Program} {ops : Array Oper} {Q : Exit → Act → World → Prop} {md : Region.Mode} {S S' : World → Prop} {hold : Nat → Bool} (h : ∀ w, S' w → S w) : ∀ (fuel : Nat) (listed : Array Bool) (a : Act) (w : World), wpAnyK P md ops Q hold S' fuel listed a w → wpAnyK P md ops Q hold S fuel listed a w
  | 0, _, _, _, H => H
  | fuel + 1, _, _, _, H => ⟨H.1, fun i hi => wpOp_mono (fun a' w' h' => ⟨fun hh => h _ (h'.1 hh), wpAnyK_more h fuel _ a' w' h'.2⟩) (H.2 i hi)⟩

set_option maxRecDepth 100000 in
set_option maxHeartbeats 1500000 in
theorem plays_walk (a : Option Addr) (c : Nat) (L : List POp) (w : World) (hv : Ops w a L) (hL : L.length ≤ 140737488351232) :
    Calls Try.prog 3 #[.slice a L.length c] w fun e w' => e = .returned (.bool true) ∧ Fr w w' (fun _ => False) := by
  have HV := hide hv
  clear hv
  go_enter Try.func3, Try.ntmps3
  go_wp2_with fail
  refine (awake_any w).mono ?_
  rintro e w1 ⟨rfl, F1⟩
  have HF1 := hide F1
  clear F1
  go_wp2_with fail
  refine (new_any w1).mono ?_
  rintro e V2 ⟨rfl, hV2⟩
  have F2 : Fr w1 V2 (fun _ => False) := by rw [hV2]; exact Fr.alloc _ _ _
  have s2 : V2.heap.size = w1.heap.size + 1 := by rw [hV2]; simp
  have hp2 : PageIn V2 w1.heap.size (fun k => k = w1.heap.size) [] 0 := by rw [hV2]; exact newIn w1
  obtain ⟨bp, hbp⟩ : ∃ bp, bp = w1.heap.size := ⟨_, rfl⟩
  rw [← hbp] at hp2 s2 ⊢
  have hbw : w.heap.size ≤ bp := by have := HF1.out.size; omega
  obtain ⟨gw, hgw⟩ : ∃ gw, gw = V2.heap.size := ⟨_, rfl⟩
  have FA := Fr.alloc V2 (.cells #[.slice none 0 0, .int .i64 0] 28) (fun _ => False)
  have HT0 := hide (two_of (heap_alloc_new V2 (.cells #[.slice none 0 0, .int .i64 0] 28)))
  have HF2 := hide (((HF1.out.trans F2).trans FA).mono (Y := fun _ => False) (by simp))
  have HP2 := hide (hp2.keep FA)
  have hsA : (V2.alloc (.cells #[.slice none 0 0, .int .i64 0] 28)).heap.size = gw + 1 := by rw [hgw]; simp
  have HBP := hide (show bp < gw by omega)
  rw [← hgw] at HT0
  clear hV2 F2 hp2 FA HF1 s2 hbp
  go_wp2_with fail
  rw [← hgw]
  generalize V2.alloc (.cells #[.slice none 0 0, .int .i64 0] 28) = V3 at *
  clear hgw
  go_loopw [3, 16] (fun x i wr => ∃ (k b : Nat) (v : Value) (R : List (List UInt8)) (m : Int) (F : Nat → Prop), k ≤ L.length ∧ x = .pointer (some ⟨b, 0, none⟩) ∧ i = .int .i64 k ∧ St wr b F R m v ∧ Two wr gw v (.int .i64 m) ∧ (∀ q, F q → w.heap.size ≤ q ∧ q ≠ gw) ∧ (∀ q, v.ownBlock = some q → w.heap.size ≤ q ∧ q ≠ gw) ∧ Fr w wr (fun _ => False)) (fun _ i _ => L.length - (intOf i).toNat)
  case atStart =>
    refine ⟨0, bp, .slice none 0 0, [], 0, fun k => k = bp, by omega, rfl, rfl, ⟨HP2.out, OwnS.nil _, fun q hq => ?_, by simp [Value.ownBlock]⟩, HT0.out, fun q hq => ?_, by simp [Value.ownBlock], HF2.out⟩
    · have := HBP.out; omega
    · have := HBP.out; omega
  case round =>
    rename World => W
    obtain ⟨k, b, v, R, m, F, hk, rfl, rfl, hst, ht, hF, hX, hf⟩ := hrel
    have HST := hide hst
    have HT := hide ht
    have HFF := hide hF
    have HX := hide hX
    have HF := hide hf
    have hwg : w.heap.size ≤ gw := by have := HBP.out; omega
    have hgW : gw < W.heap.size := World.block_lt_of_cell? W _ ht.1
    obtain ⟨va, vc, hve, _⟩ := hst.own.shape
    subst hve
    clear hst ht hF hX hf HP2 HF2 HT0
    by_cases hlt : k < L.length
    · obtain ⟨o, hlo⟩ : ∃ o, L[k]? = some o := ⟨_, List.getElem?_eq_getElem hlt⟩
      obtain ⟨g, off, rfl, hok, c0, c1, c2, c3, c4⟩ := HV.out.get HF.out k o hlo
      have FA := Fr.alloc W (.cells #[.int .i64 o.kind, .int .i64 o.slot, .int .i64 o.at_, .slice o.a o.n o.c, .int .i64 o.mark] 31) (fun _ => False)
      have HFA := hide ((HF.out.trans FA).mono (Y := fun _ => False) (by simp))
      have HOKA := hide (hok.fr HFA.out)
      have HSTA := hide (HST.out.keep FA)
      have HTA := hide (HT.out.fr FA (fun h => h))
      have sA : (W.alloc (.cells #[.int .i64 o.kind, .int .i64 o.slot, .int .i64 o.at_, .slice o.a o.n o.c, .int .i64 o.mark] 31)).heap.size = W.heap.size + 1 := by simp
      have tA0 := HTA.out.1
      have tA1 := HTA.out.2.1
      clear FA hok hlo
      by_cases h4 : o.kind = 4
      · rw [h4] at c0 HFA HOKA HSTA HTA sA tA0 tA1
        clear h4
        go_wp2_with fail
        have HFT := hide HSTA.out.page.fits
        have HMK := hide HSTA.out.page.mark
        generalize W.alloc (.cells #[.int .i64 4, .int .i64 o.slot, .int .i64 o.at_, .slice o.a o.n o.c, .int .i64 o.mark] 31) = WA at *
        refine (bytesIn HSTA.out.page).mono ?_
        rintro e W2 ⟨rfl, hg2, f2⟩
        rw [sA] at hg2
        have hb2 := BI.block hg2 256 (length_bytesP HFT.out m)
        have HB2 := hide hb2
        have HF2 := hide ((HFA.out.trans f2).mono (Y := fun _ => False) (by simp))
        have HT2 := hide (HTA.out.fr f2 (fun h => h))
        have HO2 := hide (HSTA.out.own.fr f2 (fun _ _ h => h))
        have s2 := f2.size
        unfold recV
        clear hg2 f2 hb2
        go_wp2_with fail
        refine (open_any W2 _ 256 256 _ HB2.out (by omega) (by omega)).mono ?_
        rintro e W3 ⟨ho, f3⟩
        rw [open_bytes HFT.out m HMK.out] at ho
        obtain ⟨b4, rfl, hp4⟩ := ho
        have s3 := f3.size
        have HF3 := hide ((HF2.out.trans f3).mono (Y := fun _ => False) (by simp))
        have HT3 := hide (HT2.out.fr f3 (fun h => h))
        have HO3 := hide (HO2.out.fr f3 (fun _ _ h => h))
        have HP3 := hide hp4.low
        have HXL := hide (fun q (hq : (Value.slice va R.length vc).ownBlock = some q) => (HST.out.own.lt q hq).2)
        clear f3 hp4 HF2 HT2 HO2 HB2
        go_wp2
        go_roundw
        case rel =>
          refine ⟨k + 1, b4, _, R, m, _, by omega, rfl, by go_num, ⟨HP3.out, HO3.out, fun q hq => hq.2, fun q hq h => ?_⟩, HT3.out, fun q hq => ?_, HX.out, HF3.out⟩
          · have := HXL.out q hq; have := h.1; omega
          · have h1 := hq.1; have := HF.out.size; exact ⟨by omega, by omega⟩
        case measure => simp [intOf]; omega
      · go_wp2_with fail
        generalize W.alloc (.cells #[.int .i64 o.kind, .int .i64 o.slot, .int .i64 o.at_, .slice o.a o.n o.c, .int .i64 o.mark] 31) = WA at *
        refine (step_any WA b F R m _ o HSTA.out HOKA.out).mono ?_
        rintro e W2 ⟨v', R', m', F', rfl, hp2, ho2, hF2, hX2, f2⟩
        obtain ⟨va', vc', hve, _⟩ := ho2.shape
        subst hve
        have s2 := f2.size
        have hngw : ¬ F gw := fun h => (HFF.out gw h).2 rfl
        have ht2 := HTA.out.fr f2 hngw
        have FS : Fr W2 ((W2.setCell ⟨gw, 0, none⟩ (.slice va' R'.length vc')).setCell ⟨gw, 1, none⟩ (.int .i64 m')) (fun q => q = gw) := ((Fr.setCell W2 ⟨gw, 0, none⟩ (.slice va' R'.length vc')).trans (Fr.setCell _ ⟨gw, 1, none⟩ (.int .i64 m'))).mono (fun q _ h => by rcases h with h | h <;> exact h)
        have HXL := fun q (hq : (Value.slice va R.length vc).ownBlock = some q) => (HST.out.own.lt q hq).2
        have HF3 := hide (((HFA.out.trans f2).trans FS).mono (Y := fun _ => False) (fun q hq h => by rcases h with (h | h) | h; exact h; (have := HFF.out q h; omega); omega))
        have HFn := hide (fun q (hq : F' q) => show w.heap.size ≤ q ∧ q ≠ gw by have h1 := (hF2 q hq).1; have := HF.out.size; rcases h1 with h1 | h1; exact HFF.out q h1; exact ⟨by omega, by omega⟩)
        have HXn := hide (fun q (hq : (.slice va' R'.length vc' : Value).ownBlock = some q) => show w.heap.size ≤ q ∧ q ≠ gw by have h1 := (hX2 q hq).1; have := HF.out.size; rcases h1 with h1 | h1; exact HX.out q h1; exact ⟨by omega, by omega⟩)
        have HS3 := hide (show St ((W2.setCell ⟨gw, 0, none⟩ (.slice va' R'.length vc')).setCell ⟨gw, 1, none⟩ (.int .i64 m')) b F' R' m' (.slice va' R'.length vc') from ⟨hp2.fr FS (fun q hq _ h => (HFn.out q hq).2 h), ho2.fr FS (fun q hq h => (HXn.out q hq).2 h), fun q hq => Nat.lt_of_lt_of_le (hF2 q hq).2 FS.size, fun q hq => (hX2 q hq).2⟩)
        have HT3 := hide ((ht2.set0 (.slice va' R'.length vc')).set1 (.int .i64 m'))
        have q0 := ht2.1
        have q1 := ht2.2.1
        have z0 := ht2.2.2 0
        have z1 := ht2.2.2 1
        clear hp2 ho2 hF2 hX2 f2 ht2 FS HXL HSTA HTA HFA
        go_wp2_with fail
        generalize (W2.setCell ⟨gw, 0, none⟩ (.slice va' R'.length vc')).setCell ⟨gw, 1, none⟩ (.int .i64 m') = W3 at *
        have HFT := hide HS3.out.page.fits
        clear q0 q1 z0 z1 tA0 tA1
        have hSx : ∀ V, Fr W3 V (fun _ => False) → V.cell? ⟨gw, 0, none⟩ = some (.slice va' R'.length vc') ∧ V.cell? ⟨gw, 1, none⟩ = some (.int .i64 m') := fun V hV => ⟨(HT3.out.fr hV (fun h => h)).1, (HT3.out.fr hV (fun h => h)).2.1⟩
        have hS := hSx _ (Fr.drew W3 (fun _ => False))
        have FD := Fr.drew W3 (fun _ => False)
        refine wp_region_K (fun _ => true) (fun V => V.cell? ⟨gw, 0, none⟩ = some (.slice va' R'.length vc') ∧ V.cell? ⟨gw, 1, none⟩ = some (.int .i64 m')) (by kernel_rfl) ?_
        refine wpAnyK_takeTo 0 (some 43) (.bool true) [] rfl rfl (by kernel_rfl) (by kernel_rfl) (by kernel_rfl) (by kernel_rfl) (fun _ _ _ h => h) hS (Or.inl ⟨rfl, fun w1 hw1 => by go_simp⟩) ?_
        simp only [Act.put, List.setIfInBounds_toArray, List.set_cons_zero, List.set_cons_succ]
        refine wpAnyK_takeTo 1 (some 44) (.bool false) [] rfl rfl (by kernel_rfl) (by kernel_rfl) (by kernel_rfl) (by kernel_rfl) (fun _ _ _ h => h) hS (Or.inl ⟨rfl, fun w1 hw1 => by go_simp⟩) ?_
        simp only [Act.put, List.setIfInBounds_toArray, List.set_cons_zero, List.set_cons_succ]
        refine wpAnyK_takeTo 2 (some 45) (.bool false) [] rfl rfl (by kernel_rfl) (by kernel_rfl) (by kernel_rfl) (by kernel_rfl) (fun _ _ _ h => h) hS (Or.inl ⟨rfl, fun w1 hw1 => by go_simp⟩) ?_
        simp only [Act.put, List.setIfInBounds_toArray, List.set_cons_zero, List.set_cons_succ]
        refine wpAnyK_takeTo 3 (some 46) (.pointer (some ⟨b, 0, none⟩)) [] rfl rfl (by kernel_rfl) (by kernel_rfl) (by kernel_rfl) (by kernel_rfl) (fun _ _ _ h => h) hS (Or.inl ⟨rfl, fun w1 hw1 => by go_simp⟩) ?_
        simp only [Act.put, List.setIfInBounds_toArray, List.set_cons_zero, List.set_cons_succ]
        refine wpAnyK_takeTo 5 (some 48) (.pointer (some ⟨gw, 0, none⟩)) [] rfl rfl (by kernel_rfl) (by kernel_rfl) (by kernel_rfl) (by kernel_rfl) (fun _ _ _ h => h) hS (Or.inl ⟨rfl, fun w1 hw1 => by go_simp⟩) ?_
        simp only [Act.put, List.setIfInBounds_toArray, List.set_cons_zero, List.set_cons_succ]
        refine wpAnyK_takeTo 6 (some 49) (.slice va' R'.length vc') [] rfl rfl (by kernel_rfl) (by kernel_rfl) (by kernel_rfl) (by kernel_rfl) (fun _ _ _ h => h) hS (Or.inl ⟨rfl, fun w1 hw1 => by obtain ⟨g0, g1⟩ := hw1; go_simp⟩) ?_
        simp only [Act.put, List.setIfInBounds_toArray, List.set_cons_zero, List.set_cons_succ]
        refine wpAnyK_takeTo 7 (some 50) (.int .i64 R'.length) [] rfl rfl (by kernel_rfl) (by kernel_rfl) (by kernel_rfl) (by kernel_rfl) (fun _ _ _ h => h) hS (Or.inl ⟨rfl, fun w1 hw1 => by go_simp⟩) ?_
        simp only [Act.put, List.setIfInBounds_toArray, List.set_cons_zero, List.set_cons_succ]
        refine wpAnyK_one (i := 4) (by kernel_rfl) rfl rfl ?_
        refine wp_call_to (some 47) rfl 14 #[.pointer (some ⟨b, 0, none⟩)] (by go_simp) (countIn ((HS3.out.keep FD).page)) ?_
        rintro e Vx ⟨rfl, hVx⟩
        obtain rfl := hVx.symm
        clear hVx
        refine ⟨_, rfl, fun _ => hS, ?_⟩
        simp only [Act.put, List.setIfInBounds_toArray, List.set_cons_zero, List.set_cons_succ]
        refine wpAnyK_takeTo 8 (some 51) (.bool false) [] rfl rfl (by kernel_rfl) (by kernel_rfl) (by kernel_rfl) (by kernel_rfl) (fun _ _ _ h => h) hS (Or.inl ⟨rfl, fun w1 hw1 => by go_simp⟩) ?_
        simp only [Act.put, List.setIfInBounds_toArray, List.set_cons_zero, List.set_cons_succ]
        refine wpAnyK_takeTo 9 (some 52) (.bool false) [] rfl rfl (by kernel_rfl) (by kernel_rfl) (by kernel_rfl) (by kernel_rfl) (fun _ _ _ h => h) hS (Or.inl ⟨rfl, fun w1 hw1 => by go_simp⟩) ?_
        simp only [Act.put, List.setIfInBounds_toArray, List.set_cons_zero, List.set_cons_succ]
        refine wpAnyK_takeTo 10 (some 53) (.bool false) [] rfl rfl (by kernel_rfl) (by kernel_rfl) (by kernel_rfl) (by kernel_rfl) (fun _ _ _ h => h) hS (Or.inl ⟨rfl, fun w1 hw1 => by go_simp⟩) ?_
        simp only [Act.put, List.setIfInBounds_toArray, List.set_cons_zero, List.set_cons_succ]
        refine wpAnyK_takeTo 11 (some 54) (.pointer (some ⟨b, 0, none⟩)) [] rfl rfl (by kernel_rfl) (by kernel_rfl) (by kernel_rfl) (by kernel_rfl) (fun _ _ _ h => h) hS (Or.inl ⟨rfl, fun w1 hw1 => by go_simp⟩) ?_
        simp only [Act.put, List.setIfInBounds_toArray, List.set_cons_zero, List.set_cons_succ]
        refine wpAnyK_takeTo 13 (some 56) (.agg #[.slice va' R'.length vc', .int .i64 m']) [] rfl rfl (by kernel_rfl) (by kernel_rfl) (by kernel_rfl) (by kernel_rfl) (fun _ _ _ h => h) hS (Or.inl ⟨rfl, fun w1 hw1 => by obtain ⟨g0, g1⟩ := hw1; go_simp⟩) ?_
        simp only [Act.put, List.setIfInBounds_toArray, List.set_cons_zero, List.set_cons_succ]
        refine wpAnyK_one (i := 12) (by kernel_rfl) rfl rfl ?_
        refine wp_call_to (some 55) rfl 15 #[.pointer (some ⟨b, 0, none⟩)] (by go_simp) (roomIn ((HS3.out.keep FD).page)) ?_
        rintro e Vx ⟨rfl, hVx⟩
        obtain rfl := hVx.symm
        clear hVx
        refine ⟨_, rfl, fun _ => hS, ?_⟩
        simp only [Act.put, List.setIfInBounds_toArray, List.set_cons_zero, List.set_cons_succ]
        refine wpAnyK_one (i := 14) (by kernel_rfl) rfl rfl ?_
        refine wp_call_to (some 57) rfl 16 #[.agg #[.slice va' R'.length vc', .int .i64 m']] (by go_simp) (rroom_any W3.drew _ R' m' (HS3.out.keep FD).own HFT.out) ?_
        rintro e V4 ⟨rfl, f4⟩
        have F4 : Fr W3 V4 (fun _ => False) := (FD.trans f4).mono (by simp)
        have hS := hSx V4 F4
        refine ⟨_, rfl, fun _ => hS, ?_⟩
        simp only [Act.put, List.setIfInBounds_toArray, List.set_cons_zero, List.set_cons_succ]
        refine wpAnyK_takeTo 15 (some 58) (.bool false) [] rfl rfl (by kernel_rfl) (by kernel_rfl) (by kernel_rfl) (by kernel_rfl) (fun _ _ _ h => h) hS (Or.inl ⟨rfl, fun w1 hw1 => by go_simp⟩) ?_
        simp only [Act.put, List.setIfInBounds_toArray, List.set_cons_zero, List.set_cons_succ]
        refine wpAnyK_takeTo 16 (some 59) (.bool false) [] rfl rfl (by kernel_rfl) (by kernel_rfl) (by kernel_rfl) (by kernel_rfl) (fun _ _ _ h => h) hS (Or.inl ⟨rfl, fun w1 hw1 => by go_simp⟩) ?_
        simp only [Act.put, List.setIfInBounds_toArray, List.set_cons_zero, List.set_cons_succ]
        refine wpAnyK_takeTo 17 (some 60) (.bool false) [] rfl rfl (by kernel_rfl) (by kernel_rfl) (by kernel_rfl) (by kernel_rfl) (fun _ _ _ h => h) hS (Or.inl ⟨rfl, fun w1 hw1 => by go_simp⟩) ?_
        simp only [Act.put, List.setIfInBounds_toArray, List.set_cons_zero, List.set_cons_succ]
        refine wpAnyK_takeTo 18 (some 61) (.pointer (some ⟨b, 0, none⟩)) [] rfl rfl (by kernel_rfl) (by kernel_rfl) (by kernel_rfl) (by kernel_rfl) (fun _ _ _ h => h) hS (Or.inl ⟨rfl, fun w1 hw1 => by go_simp⟩) ?_
        simp only [Act.put, List.setIfInBounds_toArray, List.set_cons_zero, List.set_cons_succ]
        refine wpAnyK_takeTo 20 (some 63) (.agg #[.slice va' R'.length vc', .int .i64 m']) [] rfl rfl (by kernel_rfl) (by kernel_rfl) (by kernel_rfl) (by kernel_rfl) (fun _ _ _ h => h) hS (Or.inl ⟨rfl, fun w1 hw1 => by obtain ⟨g0, g1⟩ := hw1; go_simp⟩) ?_
        simp only [Act.put, List.setIfInBounds_toArray, List.set_cons_zero, List.set_cons_succ]
        refine wpAnyK_one (i := 19) (by kernel_rfl) rfl rfl ?_
        refine wp_call_to (some 62) rfl 17 #[.pointer (some ⟨b, 0, none⟩)] (by go_simp) (leftIn ((HS3.out.keep F4).page)) ?_
        rintro e Vx ⟨rfl, hVx⟩
        obtain rfl := hVx.symm
        clear hVx
        refine ⟨_, rfl, fun _ => hS, ?_⟩
        simp only [Act.put, List.setIfInBounds_toArray, List.set_cons_zero, List.set_cons_succ]
        refine wpAnyK_one (i := 21) (by kernel_rfl) rfl rfl ?_
        refine wp_call_to (some 64) rfl 18 #[.agg #[.slice va' R'.length vc', .int .i64 m']] (by go_simp) (rleft_any V4 _ R' m' (HS3.out.keep F4).own HFT.out) ?_
        rintro e V5 ⟨rfl, f5⟩
        have F5 : Fr W3 V5 (fun _ => False) := (F4.trans f5).mono (by simp)
        have hS := hSx V5 F5
        refine ⟨_, rfl, fun _ => hS, ?_⟩
        simp only [Act.put, List.setIfInBounds_toArray, List.set_cons_zero, List.set_cons_succ]
        refine wpAnyK_takeTo 22 (some 65) (.bool false) [] rfl rfl (by kernel_rfl) (by kernel_rfl) (by kernel_rfl) (by kernel_rfl) (fun _ _ _ h => h) hS (Or.inl ⟨rfl, fun w1 hw1 => by go_simp⟩) ?_
        simp only [Act.put, List.setIfInBounds_toArray, List.set_cons_zero, List.set_cons_succ]
        refine wpAnyK_takeTo 23 (some 66) (.bool false) [] rfl rfl (by kernel_rfl) (by kernel_rfl) (by kernel_rfl) (by kernel_rfl) (fun _ _ _ h => h) hS (Or.inl ⟨rfl, fun w1 hw1 => by go_simp⟩) ?_
        simp only [Act.put, List.setIfInBounds_toArray, List.set_cons_zero, List.set_cons_succ]
        refine wpAnyK_takeTo 24 (some 67) (.bool false) [] rfl rfl (by kernel_rfl) (by kernel_rfl) (by kernel_rfl) (by kernel_rfl) (fun _ _ _ h => h) hS (Or.inl ⟨rfl, fun w1 hw1 => by go_simp⟩) ?_
        simp only [Act.put, List.setIfInBounds_toArray, List.set_cons_zero, List.set_cons_succ]
        refine wpAnyK_takeTo 25 (some 68) (.pointer (some ⟨b, 0, none⟩)) [] rfl rfl (by kernel_rfl) (by kernel_rfl) (by kernel_rfl) (by kernel_rfl) (fun _ _ _ h => h) hS (Or.inl ⟨rfl, fun w1 hw1 => by go_simp⟩) ?_
        simp only [Act.put, List.setIfInBounds_toArray, List.set_cons_zero, List.set_cons_succ]
        refine wpAnyK_takeTo 27 (some 70) (.pointer (some ⟨gw, 1, none⟩)) [] rfl rfl (by kernel_rfl) (by kernel_rfl) (by kernel_rfl) (by kernel_rfl) (fun _ _ _ h => h) hS (Or.inl ⟨rfl, fun w1 hw1 => by go_simp⟩) ?_
        simp only [Act.put, List.setIfInBounds_toArray, List.set_cons_zero, List.set_cons_succ]
        refine wpAnyK_takeTo 28 (some 71) (.int .i64 m') [] rfl rfl (by kernel_rfl) (by kernel_rfl) (by kernel_rfl) (by kernel_rfl) (fun _ _ _ h => h) hS (Or.inl ⟨rfl, fun w1 hw1 => by obtain ⟨g0, g1⟩ := hw1; go_simp⟩) ?_
        simp only [Act.put, List.setIfInBounds_toArray, List.set_cons_zero, List.set_cons_succ]
        refine wpAnyK_one (i := 26) (by kernel_rfl) rfl rfl ?_
        refine wp_call_to (some 69) rfl 19 #[.pointer (some ⟨b, 0, none⟩)] (by go_simp) (markIn ((HS3.out.keep F5).page)) ?_
        rintro e Vx ⟨rfl, hVx⟩
        obtain rfl := hVx.symm
        clear hVx
        refine ⟨_, rfl, fun _ => hS, ?_⟩
        simp only [Act.put, List.setIfInBounds_toArray, List.set_cons_zero, List.set_cons_succ]
        refine wpAnyK_takeTo 29 (some 72) (.bool false) [] rfl rfl (by kernel_rfl) (by kernel_rfl) (by kernel_rfl) (by kernel_rfl) (fun _ _ _ h => h) hS (Or.inl ⟨rfl, fun w1 hw1 => by go_simp⟩) ?_
        simp only [Act.put, List.setIfInBounds_toArray, List.set_cons_zero, List.set_cons_succ]
        refine wpAnyK_takeTo 30 (some 73) (.bool false) [] rfl rfl (by kernel_rfl) (by kernel_rfl) (by kernel_rfl) (by kernel_rfl) (fun _ _ _ h => h) hS (Or.inl ⟨rfl, fun w1 hw1 => by go_simp⟩) ?_
        simp only [Act.put, List.setIfInBounds_toArray, List.set_cons_zero, List.set_cons_succ]
        refine wpAnyK_done (by kernel_rfl) ?_ _
        have HS5 := hide (HS3.out.keep F5)
        have HT5 := hide (HT3.out.fr F5 (fun h => h))
        have HF5 := hide ((HF3.out.trans F5).mono (Y := fun _ => False) (by simp))
        clear hS hSx F4 F5 f4 f5 FD HS3 HT3 HF3
        go_wp2
        go_roundw
        case rel => exact ⟨k + 1, b, _, R', m', F', by omega, rfl, by go_num, HS5.out, HT5.out, HFn.out, HXn.out, HF5.out⟩
        case measure => simp [intOf]; omega
    · go_wp2_with fail
      have HFT := hide HST.out.page.fits
      have hSx : ∀ V, Fr W V (fun _ => False) → V.cell? ⟨gw, 0, none⟩ = some (.slice va R.length vc) ∧ V.cell? ⟨gw, 1, none⟩ = some (.int .i64 m) := fun V hV => ⟨(HT.out.fr hV (fun h => h)).1, (HT.out.fr hV (fun h => h)).2.1⟩
      have hS := hSx _ (Fr.drew W (fun _ => False))
      have FD := Fr.drew W (fun _ => False)
      refine wp_region_K (fun _ => true) (fun V => V.cell? ⟨gw, 0, none⟩ = some (.slice va R.length vc) ∧ V.cell? ⟨gw, 1, none⟩ = some (.int .i64 m)) (by kernel_rfl) ?_
      refine wpAnyK_takeTo 0 (some 75) (.pointer (some ⟨b, 0, none⟩)) [] rfl rfl (by kernel_rfl) (by kernel_rfl) (by kernel_rfl) (by kernel_rfl) (fun _ _ _ h => h) hS (Or.inl ⟨rfl, fun w1 hw1 => by go_simp⟩) ?_
      simp only [Act.put, List.setIfInBounds_toArray, List.set_cons_zero, List.set_cons_succ]
      refine wpAnyK_takeTo 3 (some 78) (.agg #[.slice va R.length vc, .int .i64 m]) [] rfl rfl (by kernel_rfl) (by kernel_rfl) (by kernel_rfl) (by kernel_rfl) (fun _ _ _ h => h) hS (Or.inl ⟨rfl, fun w1 hw1 => by obtain ⟨g0, g1⟩ := hw1; go_simp⟩) ?_
      simp only [Act.put, List.setIfInBounds_toArray, List.set_cons_zero, List.set_cons_succ]
      refine wpAnyK_one (i := 1) (by kernel_rfl) rfl rfl ?_
      refine wp_call_to (some 76) rfl 12 #[.pointer (some ⟨b, 0, none⟩)] (by go_simp) (bytesIn (HST.out.keep FD).page) ?_
      rintro e V1 ⟨rfl, hg1, f1⟩
      have F1 : Fr W V1 (fun _ => False) := (FD.trans f1).mono (by simp)
      have hb1 := BI.block hg1 256 (length_bytesP HFT.out m)
      have hS1 := And.intro (hSx V1 F1) hb1
      unfold recV
      refine ⟨_, rfl, fun _ => hSx V1 F1, ?_⟩
      simp only [Act.put, List.setIfInBounds_toArray, List.set_cons_zero, List.set_cons_succ]
      refine wpAnyK_more (S' := fun V => (V.cell? ⟨gw, 0, none⟩ = some (.slice va R.length vc) ∧ V.cell? ⟨gw, 1, none⟩ = some (.int .i64 m)) ∧ BI V (some ⟨W.drew.heap.size, 0, none⟩) 256 (bytesP R m)) (fun _ h => h.1) _ _ _ _ ?_
      refine wpAnyK_takeTo 2 (some 77) (.string (strOf (bytesP R m))) [] rfl rfl (by kernel_rfl) (by kernel_rfl) (by kernel_rfl) (by kernel_rfl) (fun _ _ _ h => h) hS1 (Or.inl ⟨rfl, fun w1 hw1 => exec_string (.tmp 76) rfl rfl hw1.2⟩) ?_
      simp only [Act.put, List.setIfInBounds_toArray, List.set_cons_zero, List.set_cons_succ]
      refine wpAnyK_one (i := 4) (by kernel_rfl) rfl rfl ?_
      refine wp_call_to (some 79) rfl 20 #[.agg #[.slice va R.length vc, .int .i64 m]] (by go_simp) (refBytes_any V1 _ R m (HST.out.keep F1).own HFT.out) ?_
      rintro e V2' ⟨rfl, f2⟩
      have F2' : Fr W V2' (fun _ => False) := (F1.trans f2).mono (by simp)
      have hS2 := And.intro (hSx V2' F2') (hb1.fr f2 (fun _ _ _ _ h => h))
      refine ⟨_, rfl, fun _ => hS2, ?_⟩
      simp only [Act.put, List.setIfInBounds_toArray, List.set_cons_zero, List.set_cons_succ]
      refine wpAnyK_takeTo 5 (some 80) (.bool true) [] rfl rfl (by kernel_rfl) (by kernel_rfl) (by kernel_rfl) (by kernel_rfl) (fun _ _ _ h => h) hS2 (Or.inl ⟨rfl, fun w1 hw1 => by go_simp⟩) ?_
      simp only [Act.put, List.setIfInBounds_toArray, List.set_cons_zero, List.set_cons_succ]
      refine wpAnyK_takeTo 6 (some 2) (.bool true) [] rfl rfl (by kernel_rfl) (by kernel_rfl) (by kernel_rfl) (by kernel_rfl) (fun _ _ _ h => h) hS2 (Or.inl ⟨rfl, fun w1 hw1 => by go_simp⟩) ?_
      simp only [Act.put, List.setIfInBounds_toArray, List.set_cons_zero, List.set_cons_succ]
      refine wpAnyK_done (by kernel_rfl) ?_ _
      have HFE := hide ((HF.out.trans F2').mono (Y := fun _ => False) (by simp))
      clear hS hSx hS1 hS2 F1 F2' f1 f2 FD hg1 hb1
      go_wp2
      go_ret
      exact ⟨rfl, HFE.out⟩
end Go.Proofs.Ytnkjknlacmeloaa
