/- A log and the document's play the same: the walk of WalPlays. -/
import Derived.Test.YtachppnakmdjhaaMq
import Derived.Deep.CutBlock
import Derived.Deep.DeepCutAuto
namespace Go.Proofs.Ytachppnakmdjhaa
open Go.RowKit
set_option linter.unusedVariables false

set_option maxRecDepth 100000 in
set_option maxHeartbeats 12000000 in
theorem plays_walk (z0 z1 : Int) (a : Option Addr) (c : Nat) (L : List WOp) (w : World) (hz0 : -9223372036854775808 ≤ z0 ∧ z0 ≤ 9223372036854775807) (hz1 : -9223372036854775808 ≤ z1 ∧ z1 ≤ 9223372036854775807) (hb : WOps w a L) (hn : L.length ≤ 140737488351232) :
    Calls Try.prog 3 #[.int .i64 z0, .int .i64 z1, .slice a L.length c] w fun e w' => e = .returned (.bool true) ∧ Fr w w' (fun _ => False) := by
  have HV := hide hb
  clear hb
  go_enter Try.func3, Try.ntmps3
  go_wp2_with fail
  refine (awake_any w).mono ?_
  rintro e w0 ⟨rfl, F0⟩
  have HF0 := hide F0
  clear F0
  go_wp2_with fail
  refine (new_any 6 6 rfl (by omega) (by omega) w0).mono ?_
  rintro x W1 ⟨rfl, d1, s1, f1⟩
  obtain ⟨b, hb⟩ : ∃ b, b = w0.heap.size + 1 := ⟨_, rfl⟩
  obtain ⟨gs, hgs⟩ : ∃ gs, gs = w0.heap.size := ⟨_, rfl⟩
  rw [← hb, ← hgs] at d1
  rw [← hb]
  have HD1 := hide d1
  have hw0 := HF0.out.size
  have HF1 := hide ((HF0.out.trans f1).mono (Y := fun _ => False) (by simp))
  have hbw : w.heap.size ≤ b := by omega
  have hgw : w.heap.size ≤ gs := by omega
  have hb1 : b < W1.heap.size := by omega
  have hg1 : gs < W1.heap.size := by omega
  clear d1 f1 hb hgs s1 hw0 HF0
  go_wp2_with fail
  refine (rnew_any 6 (by omega) (by omega) W1).mono ?_
  rintro x W2 ⟨a9, c9, rfl, o9, k9, f2⟩
  have h12 := f2.size
  have FA := Fr.alloc W2 (.cells #[.slice a9 6 c9, .slice none 0 0] 31) (fun _ => False)
  have bA := heap_alloc_new W2 (.cells #[.slice a9 6 c9, .slice none 0 0] 31)
  have hzA : (W2.alloc (.cells #[.slice a9 6 c9, .slice none 0 0] 31)).heap.size = W2.heap.size + 1 := by simp
  have HRF := hide (show RefIs (W2.alloc (.cells #[.slice a9 6 c9, .slice none 0 0] 31)) a9 c9 none 0 (List.replicate 6 blank) [] from RefIs.fr ⟨by simpa using o9, World.ownsRow_nil _ 0 113 2⟩ FA (fun _ _ h => h) (fun _ _ h => h))
  have HD3 := hide ((HD1.out.kept f2).kept FA)
  have HF3 := hide (((HF1.out.trans f2).trans FA).mono (Y := fun _ => False) (by simp))
  have hl9 := o9.lt
  have HK9 := hide (show ∀ q, (Value.slice a9 6 c9).ownBlock = some q → W1.heap.size ≤ q ∧ q < W2.heap.size from fun q hq => ⟨k9 q hq, (hl9 q hq).2⟩)
  clear o9 k9 f2 FA hl9 HD1 HF1
  go_wp2_with fail
  generalize W2.alloc (.cells #[.slice a9 6 c9, .slice none 0 0] 31) = W3 at *
  obtain ⟨B9, hB9⟩ : ∃ B9, B9 = W2.heap.size := ⟨_, rfl⟩
  rw [← hB9] at bA ⊢
  have HT9 := hide (two_of bA)
  clear bA
  have hB9w : w.heap.size ≤ B9 ∧ W2.heap.size ≤ B9 ∧ B9 < W3.heap.size := by have := HF3.out.size; omega
  have h9b : ¬ B9 = b := by omega
  have h9g : ¬ B9 = gs := by omega
  clear hB9
  by_cases hbad : z0 < 0 ∨ z1 < 1 ∨ (6 : Int) - z1 < z0
  · refine (open_no HD3.out z0 z1 (by simp) (by omega) (by simpa using hbad)).mono ?_
    rintro x W4 ⟨rfl, hw4⟩
    obtain rfl := hw4
    obtain ⟨y0, y1, y2⟩ := HT9.out
    go_wp2_with fail
    refine (open_ref_no a9 6 c9 none 0 0 W4 (by omega) z0 z1 hz0 hz1 hbad).mono ?_
    rintro x W5 ⟨rfl, f5⟩
    have h45 := f5.size
    have h95 : ¬ B9 = W5.heap.size := by omega
    have HF5 := hide ((HF3.out.trans f5).mono (Y := fun _ => False) (by simp))
    have FO := Fr.alloc W5 (.cells #[.string ⟨#[]⟩, .int .u32 0, .int .i64 0, .int .i64 0, .int .i64 0] 40) (fun _ => False)
    have HT5 := hide ((HT9.out.fr f5 (fun h => h)).fr FO (fun h => h))
    obtain ⟨u0, u1, u2⟩ := HT5.out
    have FS := Fr.store2 (W5.alloc (.cells #[.string ⟨#[]⟩, .int .u32 0, .int .i64 0, .int .i64 0, .int .i64 0] 40)) B9 (.slice a9 6 c9) (.slice none 0 0)
    obtain ⟨v0, v1, v2, v3, v4, v5⟩ := (five_of (heap_alloc_new W5 (.cells #[.string ⟨#[]⟩, .int .u32 0, .int .i64 0, .int .i64 0, .int .i64 0] 40))).fr FS (fun h => h95 h.symm)
    have FS2 := Fr.store5 (((W5.alloc (.cells #[.string ⟨#[]⟩, .int .u32 0, .int .i64 0, .int .i64 0, .int .i64 0] 40)).setCell ⟨B9, 0, none⟩ (.slice a9 6 c9)).setCell ⟨B9, 1, none⟩ (.slice none 0 0)) W5.heap.size (.string ⟨#[]⟩) (.int .u32 0) (.int .i64 0) (.int .i64 0) (.int .i64 0)
    have HF6 := hide ((((HF5.out.trans FO).trans FS).trans FS2).mono (Y := fun _ => False) (by intro k hk h; have := HF5.out.size; rcases h with ((h | h) | h) | h; exact h; exact h; omega; omega))
    clear y0 y1 y2 f5 HF3 HD3 HRF FO FS FS2 HF5
    go_wp2_with fail
    refine (records_any (lo := 0) (M := []) ⟨World.ownsRow_nil _ 0 72 2, fun _ h => (by cases h), fun _ h => (by cases h), fun _ h => (by cases h)⟩ (World.ownsRow_nil _ 0 96 2) (by simp)).mono ?_
    rintro x W7 ⟨rfl, f7⟩
    have HF7 := hide ((HF6.out.trans f7).mono (Y := fun _ => False) (by simp))
    clear u0 u1 u2 v0 v1 v2 v3 v4 v5 f7 HF6
    go_wp2
    go_ret
    exact ⟨rfl, HF7.out⟩
  · obtain ⟨first, rfl⟩ := Int.eq_ofNat_of_zero_le (show 0 ≤ z0 by omega)
    obtain ⟨count, rfl⟩ := Int.eq_ofNat_of_zero_le (show 0 ≤ z1 by omega)
    have hc1 : 1 ≤ count := by omega
    have hfc : first + count ≤ 6 := by omega
    clear hbad hz0 hz1
    refine (open_in HD3.out first count hc1 (by simpa using hfc) (by simp) (by simp)).mono ?_
    rintro x W4 ⟨v4, M4, e4, s4, g, tb, Cs4, S4, rfl, t1_, t2_, r4, l4, d4, sl, sk, so, gg, vg, tq, f4⟩
    have hX4 : ∀ k, ¬ k = b → ¬ k = gs → ¬ (k = b ∨ k = gs ∨ (Value.slice none 0 0).ownBlock = some k) := by intro k h1 h2 h; rcases h with h | h | h; exact h1 h; exact h2 h; cases h
    have h34 := f4.size
    have hgl := l4.lt
    have HRF4 := hide (HRF.out.fr f4 (fun q hq h => by have := (HK9.out q hq); exact hX4 q (by omega) (by omega) h) (fun q hq => by cases hq))
    obtain ⟨y0, y1, y2⟩ := HT9.out.fr f4 (hX4 B9 h9b h9g)
    have HT4 := hide (HT9.out.fr f4 (hX4 B9 h9b h9g))
    have HF4 := hide ((HF3.out.trans f4).mono (Y := fun _ => False) (by intro k hk h1; rcases h1 with h1 | h1 | h1 | h1; exact h1; omega; omega; cases h1))
    have HL4 := hide l4
    have HD4 := hide d4
    have HS4 := hide (show (List.replicate 6 blank).length = S4.length from sl.symm)
    have HSK := hide sk
    have HSO := hide so
    have HR4 := hide r4
    have HTQ := hide tq
    have HT1 := hide t1_
    have HT2 := hide t2_
    clear l4 d4 sl sk so r4 tq vg f4 t1_ t2_ HF3 HT9 HRF hX4
    go_wp2_with fail
    refine (open_ref HRF4.out HD3.out.lens HD3.out.lenw (fun n hn => HD3.out.latest_length n hn) first count hc1 (by simpa using hfc) (by simp) (by simp)).mono ?_
    rintro x W5 ⟨a5, c5, v5, R5, e5, s5, rfl, q1, q2, q3, q4, q5, q6, f5⟩
    obtain ⟨rR, re, rs⟩ := q1.unique q2 HT1.out HT2.out
    have hel := HT1.out.le
    rw [re] at q5
    rw [ref_opened HD3.out.lens HD3.out.lenw (fun n hn => HD3.out.latest_length n hn) (by simpa using hfc) hel.1 HS4.out.symm HSK.out HSO.out] at q5
    obtain ⟨St, hSt⟩ : ∃ St, St = (bytesOf (List.replicate 6 blank) [] first count).take e4 := ⟨_, rfl⟩
    have hSe : e4 = St.length := by rw [hSt, List.length_take]; omega
    rw [rR] at q3
    rw [re, rs, ← hSt, HS4.out]
    rw [HS4.out] at q6
    rw [← hSt] at HL4 HSK
    have HSe := hide hSe
    rw [hSe] at HL4 ⊢
    clear rR re rs q1 q2 hel hSt hSe
    unfold logV
    have h45 := f5.size
    have h95 : ¬ B9 = W5.heap.size := by omega
    have FO := Fr.alloc W5 (.cells #[.string ⟨#[]⟩, .int .u32 0, .int .i64 0, .int .i64 0, .int .i64 0] 40) (fun _ => False)
    have HT5 := hide ((HT4.out.fr f5 (fun h => h)).fr FO (fun h => h))
    obtain ⟨u0, u1, u2⟩ := HT5.out
    have FS := Fr.store2 (W5.alloc (.cells #[.string ⟨#[]⟩, .int .u32 0, .int .i64 0, .int .i64 0, .int .i64 0] 40)) B9 (.slice a5 S4.length c5) (.slice none 0 0)
    have H5x := hide ((five_of (heap_alloc_new W5 (.cells #[.string ⟨#[]⟩, .int .u32 0, .int .i64 0, .int .i64 0, .int .i64 0] 40))).fr FS (fun h => h95 h.symm))
    obtain ⟨k0, k1, k2, k3, k4, k5⟩ := H5x.out
    have FS2 := Fr.store5 (((W5.alloc (.cells #[.string ⟨#[]⟩, .int .u32 0, .int .i64 0, .int .i64 0, .int .i64 0] 40)).setCell ⟨B9, 0, none⟩ (.slice a5 S4.length c5)).setCell ⟨B9, 1, none⟩ (.slice none 0 0)) W5.heap.size (.string (strOf St)) (.int .u32 (s4 : Int)) (.int .i64 (St.length : Int)) (.int .i64 (first : Int)) (.int .i64 (count : Int))
    have HT6 := hide ((HT5.out.store (.slice a5 S4.length c5) (.slice none 0 0)).fr FS2 (fun h => h95 h))
    have H56 := hide (H5x.out.store (.string (strOf St)) (.int .u32 (s4 : Int)) (.int .i64 (St.length : Int)) (.int .i64 (first : Int)) (.int .i64 (count : Int)))
    have FZ := ((FO.trans FS).trans FS2).mono (Y := fun k => k = B9) (by intro k hk h; rcases h with (h | h) | h; exact h.elim; exact h; omega)
    have HFZ := hide FZ
    have HF6 := hide (((HF4.out.trans f5).trans FZ).mono (Y := fun _ => False) (by intro k hk h; rcases h with (h | h) | h; exact h; exact h; omega))
    have HREAL := hide (RealOk.fr (RealOk.kept (w := W4) ⟨HD4.out, HL4.out, by have := HS4.out; simp at this; omega, fun k hk => by rw [List.take_length]; exact HSK.out k hk⟩ f5) FZ (fun h => h9b h.symm) (fun h => h9g h.symm) (fun h => by omega) (fun q hq h => by have := (HTQ.out q hq).1; omega))
    have hal := q5.sx.lt
    have HREF := hide (RefOk.mk (q5.fr FZ (fun q hq h => by have := q6 q hq; omega) (fun q hq => by cases hq)) HT6.out H56.out)
    have HSEP := hide (show Sep w.heap.size b gs g B9 W5.heap.size tb (Value.slice a5 S4.length c5).ownBlock from
      { lb := hbw, lgs := hgw, lg := by omega, l9 := by omega, l14 := by omega, ltb := fun q hq => by have := (HTQ.out q hq).1; omega, lab := fun q hq => by have := q6 q hq; omega, n9b := h9b, n9s := h9g, n9g := by omega, n14b := by omega, n14s := by omega, n14g := by omega, n914 := h95, t9 := fun h => by have := (HTQ.out _ h).1; omega, t14 := fun h => by have := hgl.2 _ h; omega, ab_ := fun h => by have := q6 _ h; omega, as_ := fun h => by have := q6 _ h; omega, ag := fun h => by have := q6 _ h; omega, a9 := fun h => by have := q6 _ h; omega, a14 := fun h => by have := (hal _ h).2; omega, at_ := fun q hq h => by have := q6 _ h; have := hgl.2 q hq; omega })
    have HRA := hide (RecsAt.fr (RecsAt.fr HR4.out f5 (fun _ h => h.elim)) FZ (fun k h => by omega))
    have HRR := hide (show RefRecs _ v5 (plainR M4) from ownsRow_fr q3 FZ (fun q hq h => by have := q4 q hq; omega))
    have hM4 : M4.length ≤ 1048576 := by have h1 := HL4.out.chain.lt.2; have h2 := HL4.out.fits; simp [plainR] at h1; omega
    clear y0 y1 y2 f5 FO FS FS2 FZ q3 q4 q5 q6 hal HT5 H5x HT6 H56 HT4 HF4 HRF4 HD4 HL4 HD3 HR4 HTQ HT1 HT2 HSK HSO HS4 HSe HK9
    go_wp2_with fail
    generalize (((((((W5.alloc (.cells #[.string ⟨#[]⟩, .int .u32 0, .int .i64 0, .int .i64 0, .int .i64 0] 40)).setCell ⟨B9, 0, none⟩ (.slice a5 S4.length c5)).setCell ⟨B9, 1, none⟩ (.slice none 0 0)).setCell ⟨W5.heap.size, 0, none⟩ (.string (strOf St))).setCell ⟨W5.heap.size, 1, none⟩ (.int .u32 (s4 : Int))).setCell ⟨W5.heap.size, 2, none⟩ (.int .i64 (St.length : Int))).setCell ⟨W5.heap.size, 3, none⟩ (.int .i64 (first : Int))).setCell ⟨W5.heap.size, 4, none⟩ (.int .i64 (count : Int)) = W6 at *
    obtain ⟨B14, hB14⟩ : ∃ B14, B14 = W5.heap.size := ⟨_, rfl⟩
    rw [← hB14] at HSEP HREF ⊢
    clear u0 u1 u2 k0 k1 k2 k3 k4 k5
    refine (records_any HRA.out HRR.out hM4).mono ?_
    rintro x W7 ⟨rfl, f7⟩
    have HB7 := hide (show Both W7 w.heap.size b gs g B9 B14 first count from Both.kept ⟨_, _, _, _, _, _, _, _, _, HREAL.out, HREF.out, HSEP.out⟩ f7)
    have HF7 := hide ((HF6.out.trans f7).mono (Y := fun _ => False) (by simp))
    have HSP := hide (show B9 ≠ B14 ∧ w.heap.size ≤ B9 ∧ w.heap.size ≤ B14 from ⟨HSEP.out.n914, HSEP.out.l9, HSEP.out.l14⟩)
    clear f7 HRA HRR hM4 HREAL HREF HSEP HFZ HF6 hgl hB14 gg h34 h45 h95 hzA h12 hb1 hg1
    go_wp2_with fail
    go_loopw [11, 72] (fun v11 i wr => ∃ (g k : Nat), v11 = .pointer (some ⟨g, 0, none⟩) ∧ k ≤ L.length ∧ i = .int .i64 (k : Int) ∧ Both wr w.heap.size b gs g B9 B14 first count ∧ Fr w wr (fun _ => False)) (fun _ i _ => L.length - (intOf i).toNat)
    case atStart => exact ⟨g, 0, rfl, by omega, rfl, HB7.out, HF7.out⟩
    case round =>
      rename World => W
      clear HB7 HF7
      obtain ⟨g', k, rfl, hk, rfl, hbo, hf⟩ := hrel
      have HBO := hide hbo
      have HF := hide hf
      clear hbo hf
      by_cases hlt : k < L.length
      · obtain ⟨o, hlo⟩ : ∃ o, L[k]? = some o := ⟨_, List.getElem?_eq_getElem hlt⟩
        obtain ⟨ga, off, rfl, hok, o0, o1, o2, o3, o4, o5⟩ := HV.out.get HF.out k o hlo
        obtain ⟨kind, oa, on_, oc, ol, mark, ka, kl, kc, kb, t0, t1⟩ := o
        dsimp only at o0 o1 o2 o3 o4 o5
        have FA := Fr.alloc W (.cells #[.int .i64 kind, .slice oa on_ oc, .int .i64 mark, .slice ka kl kc, .int .i64 t0, .int .i64 t1] 49) (fun _ => False)
        have bA := heap_alloc_new W (.cells #[.int .i64 kind, .slice oa on_ oc, .int .i64 mark, .slice ka kl kc, .int .i64 t0, .int .i64 t1] 49)
        obtain ⟨tb1, Cs1, S1, R1, St1, dur1, sum1, a1, c1, hre, hrf, hsep⟩ := HBO.out
        have hlr := hre.lt
        have hlf := hrf.lt
        have HREAL := hide (hre.kept FA)
        have HREF := hide (hrf.kept FA)
        have HSEP := hide hsep
        have HFA := hide ((HF.out.trans FA).mono (Y := fun _ => False) (by simp))
        have HOK := hide (hok.fr HFA.out)
        have HOK0 := hide hok
        have hon : on_ ≤ 140737488351232 := hok.size
        have holn : ol.length = on_ := hok.data.1
        have hzA : (W.alloc (.cells #[.int .i64 kind, .slice oa on_ oc, .int .i64 mark, .slice ka kl kc, .int .i64 t0, .int .i64 t1] 49)).heap.size = W.heap.size + 1 := by simp
        have hwW := HF.out.size
        clear FA hok hlo HBO HF hre hrf hsep
        go_upto_block 2 with fail
        generalize W.alloc (.cells #[.int .i64 kind, .slice oa on_ oc, .int .i64 mark, .slice ka kl kc, .int .i64 t0, .int .i64 t1] 49) = WA at *
        obtain ⟨Bo, hBo⟩ : ∃ Bo, Bo = W.heap.size := ⟨_, rfl⟩
        rw [← hBo] at bA ⊢
        have HBo := hide bA
        have hBow : w.heap.size ≤ Bo ∧ Bo < WA.heap.size := by omega
        have HNB := hide (show Bo ≠ b ∧ Bo ≠ gs ∧ Bo ≠ g' ∧ Bo ≠ B9 ∧ Bo ≠ B14 ∧ (∀ q, tb1 = some q → q ≠ Bo) ∧ (∀ q, (Value.slice a1 S1.length c1).ownBlock = some q → q ≠ Bo) from ⟨by omega, by omega, by omega, by omega, by omega, fun q hq => by have := hlr.2.2.2 q hq; omega, fun q hq => by have := hlf.2.2 q hq; omega⟩)
        clear bA hBo hzA hwW o0 o1 o2 o3 o4 o5 hlr hlf
        go_cut [11] (fun v11 wx => ∃ g2 : Nat, v11 = .pointer (some ⟨g2, 0, none⟩) ∧ Both wx w.heap.size b gs g2 B9 B14 first count ∧ Fr w wx (fun _ => False))
        case first =>
          have x0 : WA.cell? ⟨Bo, 0, none⟩ = some (.int .i64 kind) := by rw [cell_of_row _ _ _ _ _ _ HBo.out]; rfl
          have x1 : WA.cell? ⟨Bo, 1, none⟩ = some (.slice oa on_ oc) := by rw [cell_of_row _ _ _ _ _ _ HBo.out]; rfl
          have x2 : WA.cell? ⟨Bo, 2, none⟩ = some (.int .i64 mark) := by rw [cell_of_row _ _ _ _ _ _ HBo.out]; rfl
          have x3 : WA.cell? ⟨Bo, 3, none⟩ = some (.slice ka kl kc) := by rw [cell_of_row _ _ _ _ _ _ HBo.out]; rfl
          have x4 : WA.cell? ⟨Bo, 4, none⟩ = some (.int .i64 t0) := by rw [cell_of_row _ _ _ _ _ _ HBo.out]; rfl
          have x5 : WA.cell? ⟨Bo, 5, none⟩ = some (.int .i64 t1) := by rw [cell_of_row _ _ _ _ _ _ HBo.out]; rfl
          have hzS : (strOf St1).size = St1.length := size_strOf St1
          by_cases hk0 : kind = 0
          · subst hk0
            as_aux_lemma =>
              have HLN := hide holn
              clear holn
              go_wp2_with fail
              have FB := Fr.alloc WA (.cells #[.slice oa on_ oc] 45) (fun _ => False)
              have b4 := heap_alloc_new WA (.cells #[.slice oa on_ oc] 45)
              obtain ⟨hp, hcap⟩ := parts_one b4 (HOK.out.data.fr FB (fun _ _ _ _ h => h)) (by show on_ ≤ _; omega) HOK.out.nil
              have HREALc := hide (HREAL.out.kept FB)
              have HREFc := hide (HREF.out.kept FB)
              have HFc := hide ((HFA.out.trans FB).mono (Y := fun _ => False) (by simp))
              have hBoc := (FB.block Bo hBow.2 (fun h => h)).trans HBo.out
              have hzc := FB.size
              clear FB b4 HREAL HREF HFA x0 x1 x2 x3 x4 x5
              generalize WA.alloc (.cells #[.slice oa on_ oc] 45) = Wc at *
              refine (append_in HREALc.out.lg HREALc.out.lt.1 HREALc.out.lt.2.1 (some ⟨WA.heap.size, 0, none⟩) 1 [ol] hp (by simp) (by simp; have := HLN.out; omega) hcap).mono ?_
              rintro x W5 hx
              obtain ⟨m5, tb5, R5, rfl, hm0, hm1, l5, tk5, f5, n5⟩ := append_both HREALc.out.lg hx
              rw [show [ol].flatten = ol by simp] at hm0 hm1 l5 tk5 ⊢
              have h5z := f5.size
              have hbl := HREFc.out.lt
              have hrl := HREALc.out.lt
              have hwA := HFc.out.size
              have HRE5 := hide (show RealOk W5 b gs g' first count tb5 Cs1 S1 R5 (addS St1 sum1 count ol) dur1 (addN St1 sum1 count ol) from ⟨HREALc.out.dk.logged HREALc.out.lg f5, l5, HREALc.out.sl, fun k hk => by rw [tk5]; exact HREALc.out.sk k hk⟩)
              have HREF5 := hide (HREFc.out.fr f5 (by rintro (h | h); exact HSEP.out.n9g h; exact HSEP.out.t9 h) (by rintro (h | h); exact HSEP.out.n14g h; exact HSEP.out.t14 h) (fun q hq h => by rcases h with h | h; exact HSEP.out.ag (h ▸ hq); exact HSEP.out.at_ q h hq))
              have HSEP5 := hide (HSEP.out.tail n5 hwA hbl.1 hbl.2.1 hbl.2.2)
              have HF5 := hide ((HFc.out.trans f5).mono (Y := fun _ => False) (by intro q hq h; have := HSEP.out.lg; rcases h with h | h | h; exact h; omega; have := HSEP.out.ltb q h; omega))
              have w1 : W5.cell? ⟨Bo, 1, none⟩ = some (.slice oa on_ oc) := by rw [cell_of_row _ _ _ _ _ _ ((f5.block Bo (by omega) (by rintro (h | h); exact HNB.out.2.2.1 h; exact HNB.out.2.2.2.2.2.1 _ h rfl)).trans hBoc)]; rfl
              have hcv := run_string W5 oa on_ oc ol (HOK0.out.data.fr HF5.out (fun _ _ _ _ h => h)).bin
              have hsm := HREALc.out.lg.chain.lt.1
              have hfi := HREALc.out.lg.fits
              have hct := HREALc.out.lg.cnt
              obtain ⟨l0, l1, l2, l3, l4, lz⟩ := HREF5.out.b14
              clear hx hp hcap l5 tk5 f5 n5 hBoc HREALc HREFc HFc HSEP
              go_wp2_with fail
              refine (add_ref St1 sum1 dur1 first count hsm (by omega) hct ol (by have := HLN.out; omega) W5).mono ?_
              rintro x W6 ⟨rfl, f6⟩
              unfold logV
              have h6z := f6.size
              obtain ⟨St2, hSt2⟩ : ∃ St2, St2 = addS St1 sum1 count ol := ⟨_, rfl⟩
              obtain ⟨sum2, hsum2⟩ : ∃ sum2, sum2 = addN St1 sum1 count ol := ⟨_, rfl⟩
              obtain ⟨E, hE⟩ : ∃ E, E = addE St1 count ol := ⟨_, rfl⟩
              rw [← hSt2, ← hsum2] at HRE5
              rw [← hSt2] at hm0
              rw [← hE] at hm0 hm1
              rw [← hSt2, ← hsum2, ← hE]
              clear hSt2 hsum2 hE
              have FN := Fr.alloc W6 (.cells #[.string (strOf St2), .int .u32 (sum2 : Int), .int .i64 (dur1 : Int), .int .i64 (first : Int), .int .i64 (count : Int)] 40) (fun _ => False)
              have HRE7 := hide ((HRE5.out.kept f6).kept FN)
              have HREF7 := hide ((HREF5.out.kept f6).kept FN)
              have HF7 := hide (((HF5.out.trans f6).trans FN).mono (Y := fun _ => False) (by simp))
              clear l0 l1 l2 l3 l4 lz
              obtain ⟨l0, l1, l2, l3, l4, lz⟩ := HREF7.out.b14
              clear f6 FN HRE5 HREF5 HF5 w1 hcv
              go_upto_region 21 with fail
              obtain ⟨hbz, hfz⟩ := both_logged (w0 := w) HRE7.out HREF7.out.rf HREF7.out.b9 HREF7.out.b14 HSEP5.out HF7.out rfl
              have HBZ := hide hbz
              have HFZ := hide hfz
              have v0 := (HREF7.out.b14.store (.string (strOf St2)) (.int .u32 (sum2 : Int)) (.int .i64 (dur1 : Int)) (.int .i64 (first : Int)) (.int .i64 (count : Int))).c0
              clear hbz hfz HRE7 HREF7 HSEP5 HF7 l0 l1 l2 l3 l4 lz HOK HOK0 HBo
              generalize (((((W6.alloc (.cells #[.string (strOf St2), .int .u32 (sum2 : Int), .int .i64 (dur1 : Int), .int .i64 (first : Int), .int .i64 (count : Int)] 40)).setCell ⟨B14, 0, none⟩ (.string (strOf St2))).setCell ⟨B14, 1, none⟩ (.int .u32 (sum2 : Int))).setCell ⟨B14, 2, none⟩ (.int .i64 (dur1 : Int))).setCell ⟨B14, 3, none⟩ (.int .i64 (first : Int))).setCell ⟨B14, 4, none⟩ (.int .i64 (count : Int)) = W8 at *
              have hzS2 : (strOf St2).size = St2.length := size_strOf St2
              by_cases hE0 : E = 0
              · subst hE0
                obtain rfl := hm0 rfl
                clear hm0 hm1
                go_wp2
                go_meet
                exact ⟨g', rfl, HBZ.out, HFZ.out⟩
              · have e1 : (E == 0) = false := by rw [beq_eq_false_iff_ne]; exact hE0
                obtain rfl := hm1 hE0
                clear hm0 hm1
                go_wp2
                go_meet
                exact ⟨g', rfl, HBZ.out, HFZ.out⟩
          · have b0 : (kind == 0) = false := by rw [beq_eq_false_iff_ne]; exact hk0
            by_cases hk1 : kind = 1
            · subst hk1
              as_aux_lemma =>
                go_wp2_with fail
                refine (force_in HREAL.out.dk HREAL.out.lg HREAL.out.sk (by have := HREAL.out.sl; omega) (by have := HREAL.out.sl; omega) mark).mono ?_
                rintro x W5 ⟨rfl, hfo⟩
                by_cases hm : (dur1 : Int) < mark
                · obtain ⟨tb5, Cs5, S5, h5, hs5, o5, t5, f5⟩ := force_full HREAL.out hm hfo
                  have HR5 := hide h5
                  clear hfo h5
                  have h5z := f5.size
                  have hbl := HREF.out.lt
                  have hrl := HREAL.out.lt
                  have hwA := HFA.out.size
                  have HREF5 := hide (HREF.out.fr f5 (by rintro (h | h | h); exact HSEP.out.n9b h; exact HSEP.out.n9s h; exact HSEP.out.n9g h) (by rintro (h | h | h); exact HSEP.out.n14b h; exact HSEP.out.n14s h; exact HSEP.out.n14g h) (fun q hq h => by rcases h with h | h | h; exact HSEP.out.ab_ (h ▸ hq); exact HSEP.out.as_ (h ▸ hq); exact HSEP.out.ag (h ▸ hq)))
                  have HSEP5 := hide (HSEP.out.tail t5 hwA hbl.1 hbl.2.1 hbl.2.2)
                  have HF5 := hide ((HFA.out.trans f5).mono (Y := fun _ => False) (by intro q hq h; have := HSEP.out.lb; have := HSEP.out.lgs; have := HSEP.out.lg; rcases h with h | h | h | h; exact h; omega; omega; omega))
                  have HSL := hide hs5
                  have HO5 := hide o5
                  have HLN := hide HREAL.out.dk.lens
                  have HDL := hide HREAL.out.lg.dle
                  have HFI := hide HREAL.out.lg.fits
                  have HSK1 := hide HREAL.out.sk
                  have HS6 := hide HREAL.out.sl
                  have w2 : W5.cell? ⟨Bo, 2, none⟩ = some (.int .i64 mark) := by rw [World.cell?_of_block (w := WA) (f5.block Bo hBow.2 (by rintro (h | h | h); exact HNB.out.1 h; exact HNB.out.2.1 h; exact HNB.out.2.2.1 h))]; exact x2
                  obtain ⟨y0, y1, y2⟩ := HREF5.out.b9
                  obtain ⟨l0, l1, l2, l3, l4, lz⟩ := HREF5.out.b14
                  have k1 : IntKind.i64.wrap ((St1.length : Int) + 1) = (St1.length : Int) + 1 := by have := HFI.out; rw [IntKind.wrap_i64]; omega
                  clear f5 hs5 o5 t5 x0 x1 x2 x3 x4 x5 HREAL HREF HSEP HFA
                  go_wp2_with fail
                  refine (force_ref HREF5.out.rf HLN.out St1 sum1 dur1 first count (by have := HS6.out; omega) (by have := HS6.out; omega) hc1 HDL.out HFI.out HSK1.out ((St1.length : Int) + 1)).mono ?_
                  rintro x W6 ⟨a6, c6, S6, dur6, rfl, hd6, r6, sl6, len6, k6, o6, t6, f6⟩
                  have hdu : dur6 = St1.length := by have := HDL.out; rw [hd6]; split <;> omega
                  clear hd6
                  subst hdu
                  obtain rfl : S6 = S5 := forced_same HR5.out HSL.out HO5.out sl6 k6 o6
                  unfold logV
                  have h6z := f6.size
                  have HT6 := hide (HREF5.out.b9.fr f6 (fun h => h))
                  have H6x := hide (HREF5.out.b14.fr f6 (fun h => h))
                  have hbl5 := HREF5.out.lt
                  have hrl5 := HR5.out.lt
                  have HRE6 := hide (HR5.out.kept f6)
                  have HRF6 := hide r6
                  have HSEP6 := hide (show Sep w.heap.size b gs g' B9 B14 tb5 (Value.slice a6 S6.length c6).ownBlock by rw [HSL.out]; exact HSEP5.out.row t6 (by have := HF5.out.size; omega) hrl5.1 hrl5.2.1 hrl5.2.2.1 hbl5.1 hbl5.2.1 hrl5.2.2.2)
                  have HF6 := hide ((HF5.out.trans f6).mono (Y := fun _ => False) (by simp))
                  clear y0 y1 y2 l0 l1 l2 l3 l4 lz f6 r6 t6 o6 k6 len6 sl6 w2 HREF5 HSEP5 HF5 HR5 hbl5 hrl5
                  obtain ⟨y0, y1, y2⟩ := HT6.out
                  obtain ⟨l0, l1, l2, l3, l4, lz⟩ := H6x.out.fr (Fr.store2 W6 B9 (.slice a6 S1.length c6) (.slice none 0 0)) (fun h => HSEP6.out.n914 h.symm)
                  go_wp2
                  go_meet
                  exact ⟨g', rfl, both_stored (w0 := w) HRE6.out HRF6.out HT6.out H6x.out HSEP6.out HF6.out (by rw [HSL.out])⟩
                · have f5 : Fr WA W5 (fun _ => False) := by rcases hfo with ⟨_, h⟩ | ⟨h, _⟩; exact h; omega
                  have HBZ := hide (show Both W5 w.heap.size b gs g' B9 B14 first count from Both.kept ⟨_, _, _, _, _, _, _, _, _, HREAL.out, HREF.out, HSEP.out⟩ f5)
                  have HFZ := hide ((HFA.out.trans f5).mono (Y := fun _ => False) (by simp))
                  have w2 : W5.cell? ⟨Bo, 2, none⟩ = some (.int .i64 mark) := by rw [World.cell?_of_block (w := WA) (f5.block Bo hBow.2 (fun h => h))]; exact x2
                  obtain ⟨l0, l1, l2, l3, l4, lz⟩ := (HREF.out.kept f5).b14
                  clear hfo f5 x0 x1 x2 x3 x4 x5 HREAL HREF HSEP HFA
                  go_wp2
                  go_meet
                  exact ⟨g', rfl, HBZ.out, HFZ.out⟩
            · have b1 : (kind == 1) = false := by rw [beq_eq_false_iff_ne]; exact hk1
              by_cases hk2 : kind = 2
              · subst hk2
                as_aux_lemma =>
                  go_wp2_with fail
                  refine (flush_in HREAL.out.dk HREAL.out.lg HREAL.out.sk (by have := HREAL.out.sl; omega) (by have := HREAL.out.sl; omega)).mono ?_
                  rintro x W5 ⟨rfl, Cs5, S5, tb5, d5, hs5, l5, k5, o5, t5, f5⟩
                  have HR5 := hide (show RealOk W5 b gs g' first count tb5 Cs5 S5 R1 St1 St1.length sum1 from ⟨d5, l5, by rw [hs5]; exact HREAL.out.sl, fun k hk => by rw [List.take_length]; exact k5 k hk⟩)
                  clear d5 l5 k5
                  have h5z := f5.size
                  have hbl := HREF.out.lt
                  have hrl := HREAL.out.lt
                  have hwA := HFA.out.size
                  have HREF5 := hide (HREF.out.fr f5 (by rintro (h | h | h); exact HSEP.out.n9b h; exact HSEP.out.n9s h; exact HSEP.out.n9g h) (by rintro (h | h | h); exact HSEP.out.n14b h; exact HSEP.out.n14s h; exact HSEP.out.n14g h) (fun q hq h => by rcases h with h | h | h; exact HSEP.out.ab_ (h ▸ hq); exact HSEP.out.as_ (h ▸ hq); exact HSEP.out.ag (h ▸ hq)))
                  have HSEP5 := hide (HSEP.out.tail t5 hwA hbl.1 hbl.2.1 hbl.2.2)
                  have HF5 := hide ((HFA.out.trans f5).mono (Y := fun _ => False) (by intro q hq h; have := HSEP.out.lb; have := HSEP.out.lgs; have := HSEP.out.lg; rcases h with h | h | h | h; exact h; omega; omega; omega))
                  have HSL := hide hs5
                  have HO5 := hide o5
                  have HLN := hide HREAL.out.dk.lens
                  have HDL := hide HREAL.out.lg.dle
                  have HFI := hide HREAL.out.lg.fits
                  have HSK1 := hide HREAL.out.sk
                  have HS6 := hide HREAL.out.sl
                  have w2 : W5.cell? ⟨Bo, 2, none⟩ = some (.int .i64 mark) := by rw [World.cell?_of_block (w := WA) (f5.block Bo hBow.2 (by rintro (h | h | h); exact HNB.out.1 h; exact HNB.out.2.1 h; exact HNB.out.2.2.1 h))]; exact x2
                  obtain ⟨y0, y1, y2⟩ := HREF5.out.b9
                  obtain ⟨l0, l1, l2, l3, l4, lz⟩ := HREF5.out.b14
                  have k1 : IntKind.i64.wrap ((St1.length : Int) + 1) = (St1.length : Int) + 1 := by have := HFI.out; rw [IntKind.wrap_i64]; omega
                  clear f5 hs5 o5 t5 x0 x1 x2 x3 x4 x5 HREAL HREF HSEP HFA
                  go_wp2_with fail
                  refine (force_ref HREF5.out.rf HLN.out St1 sum1 dur1 first count (by have := HS6.out; omega) (by have := HS6.out; omega) hc1 HDL.out HFI.out HSK1.out ((St1.length : Nat))).mono ?_
                  rintro x W6 ⟨a6, c6, S6, dur6, rfl, hd6, r6, sl6, len6, k6, o6, t6, f6⟩
                  have hdu : dur6 = St1.length := by have := HDL.out; rw [hd6]; split <;> omega
                  clear hd6
                  subst hdu
                  obtain rfl : S6 = S5 := forced_same HR5.out HSL.out HO5.out sl6 k6 o6
                  unfold logV
                  have h6z := f6.size
                  have HT6 := hide (HREF5.out.b9.fr f6 (fun h => h))
                  have H6x := hide (HREF5.out.b14.fr f6 (fun h => h))
                  have hbl5 := HREF5.out.lt
                  have hrl5 := HR5.out.lt
                  have HRE6 := hide (HR5.out.kept f6)
                  have HRF6 := hide r6
                  have HSEP6 := hide (show Sep w.heap.size b gs g' B9 B14 tb5 (Value.slice a6 S6.length c6).ownBlock by rw [HSL.out]; exact HSEP5.out.row t6 (by have := HF5.out.size; omega) hrl5.1 hrl5.2.1 hrl5.2.2.1 hbl5.1 hbl5.2.1 hrl5.2.2.2)
                  have HF6 := hide ((HF5.out.trans f6).mono (Y := fun _ => False) (by simp))
                  clear y0 y1 y2 l0 l1 l2 l3 l4 lz f6 r6 t6 o6 k6 len6 sl6 w2 HREF5 HSEP5 HF5 HR5 hbl5 hrl5
                  obtain ⟨y0, y1, y2⟩ := HT6.out
                  obtain ⟨l0, l1, l2, l3, l4, lz⟩ := H6x.out.fr (Fr.store2 W6 B9 (.slice a6 S1.length c6) (.slice none 0 0)) (fun h => HSEP6.out.n914 h.symm)
                  go_wp2
                  go_meet
                  exact ⟨g', rfl, both_stored (w0 := w) HRE6.out HRF6.out HT6.out H6x.out HSEP6.out HF6.out (by rw [HSL.out])⟩
              · have b2 : (kind == 2) = false := by rw [beq_eq_false_iff_ne]; exact hk2
                by_cases h34 : kind = 3 ∨ kind = 4
                · go_upto_if 153 with fail
                  go_cut [153] from 153 to 155 (fun v wx => v = .bool true ∧ WA = wx)
                  case first =>
                    rcases h34 with h3 | h4
                    · have b3 : (kind == 3) = true := by rw [h3]; rfl
                      clear h3
                      go_wp2
                      go_meet
                      exact ⟨congrArg Value.bool b3, rfl⟩
                    · have b3 : (kind == 3) = false := by rw [h4]; rfl
                      have b4 : (kind == 4) = true := by rw [h4]; rfl
                      clear h4
                      go_wp2
                      go_meet
                      exact ⟨rfl, rfl⟩
                  case rest =>
                    obtain ⟨rfl, hwc⟩ := hcut
                    subst hwc
                    clear hk0 hk1 hk2 h34 b0 b1 b2
                    go_upto_region 32 with fail
                    go_cut [169] from 156 to 169 (fun v wx => ∃ β : Bool, v = .bool β ∧ (β = true → 0 ≤ mark ∧ mark < (count : Int)) ∧ WA = wx)
                    case first =>
                      by_cases h4 : kind = 4
                      · have b4 : (kind == 4) = true := by rw [h4]; rfl
                        clear h4
                        by_cases h5 : 0 ≤ mark
                        · by_cases h6 : mark < (count : Int)
                          · go_wp2
                            go_meet
                            exact ⟨true, rfl, fun _ => ⟨h5, h6⟩, rfl⟩
                          · go_wp2
                            go_meet
                            exact ⟨false, rfl, fun h => (by cases h), rfl⟩
                        · go_wp2
                          go_meet
                          exact ⟨false, rfl, fun h => (by cases h), rfl⟩
                      · have b4 : (kind == 4) = false := by rw [beq_eq_false_iff_ne]; exact h4
                        go_wp2
                        go_meet
                        exact ⟨false, rfl, fun h => (by cases h), rfl⟩
                    case rest =>
                      obtain ⟨β, rfl, hβ, hwc⟩ := hcut
                      subst hwc
                      go_upto_if 169 with fail
                      go_cut [169] from 169 to 191 (fun _ wx => ∃ (pv : Value) (L' : List (Nat × List UInt8)) (a3 : Option Addr) (c3 : Nat) (a4 : Option Addr) (c4 : Nat), L'.length ≤ 1 ∧ DiskIs wx b gs 6 Cs1 pv S1 L' ∧ RefIs wx a3 c3 a4 c4 S1 L' ∧ Two wx B9 (.slice a3 S1.length c3) (.slice a4 L'.length c4) ∧ Five wx B14 (.string (strOf St1)) (.int .u32 (sum1 : Int)) (.int .i64 (dur1 : Int)) (.int .i64 (first : Int)) (.int .i64 (count : Int)) ∧ (∀ q, (Value.slice a3 S1.length c3).ownBlock = some q → q ≠ b ∧ q ≠ gs) ∧ (∀ q, (Value.slice a4 L'.length c4).ownBlock = some q → q ≠ b ∧ q ≠ gs) ∧ wx.heap[Bo]? = some (.cells #[.int .i64 kind, .slice oa on_ oc, .int .i64 mark, .slice ka kl kc, .int .i64 t0, .int .i64 t1] 49 (0, 0)) ∧ Fr w wx (fun _ => False))
                      case first =>
                        cases β with
                        | true =>
                          have hsp := hβ rfl
                          clear hβ
                          as_aux_lemma =>
                            obtain ⟨m, rfl⟩ := Int.eq_ofNat_of_zero_le hsp.1
                            have hmc : m < count := by have := hsp.2; omega
                            have hS6 := HREAL.out.sl
                            have HS6 := hide hS6
                            have hfm : first + m < S1.length := by omega
                            have hfm6 : first + m < 6 := by omega
                            clear hsp hS6
                            have k4 : IntKind.i64.wrap ((first : Int) + (m : Int)) = (first : Int) + (m : Int) := by rw [IntKind.wrap_i64]; omega
                            have HFM := hide hfm
                            clear hfm
                            have FD := Fr.drew WA (fun _ => False)
                            have HFD := hide ((HFA.out.trans FD).mono (Y := fun _ => False) (by simp))
                            have HB0 := hide ((FD.block Bo hBow.2 (fun h => h)).trans HBo.out)
                            have HRED := hide (HREAL.out.kept FD)
                            have HRFD := hide (HREF.out.kept FD)
                            have HS0 := hide (op_two HB0.out)
                            have hz0 := FD.size
                            clear FD
                            clear x0 x1 x2 x3 x4 x5
                            go_wp2_with fail
                            refine wp_region_K (fun _ => true) (fun V => V.cell? ⟨Bo, 1, none⟩ = some (.slice oa on_ oc) ∧ V.cell? ⟨Bo, 2, none⟩ = some (.int .i64 (m : Int))) (by kernel_rfl) ?_
                            generalize WA.drew = V0 at *
                            refine wpAnyK_takeTo 0 (some 170) (.pointer (some ⟨b, 0, none⟩)) [] rfl rfl (by kernel_rfl) (by kernel_rfl) (by kernel_rfl) (by kernel_rfl) (fun _ _ _ h => h) HS0.out (Or.inl ⟨rfl, fun w1 hw1 => by go_simp⟩) ?_
                            simp only [Act.put, List.setIfInBounds_toArray, List.set_cons_zero, List.set_cons_succ]
                            refine wpAnyK_takeTo 1 (some 171) (.int .i64 (first : Int)) [] rfl rfl (by kernel_rfl) (by kernel_rfl) (by kernel_rfl) (by kernel_rfl) (fun _ _ _ h => h) HS0.out (Or.inl ⟨rfl, fun w1 hw1 => by go_simp⟩) ?_
                            simp only [Act.put, List.setIfInBounds_toArray, List.set_cons_zero, List.set_cons_succ]
                            refine wpAnyK_takeTo 2 (some 172) (.pointer (some ⟨Bo, 2, none⟩)) [] rfl rfl (by kernel_rfl) (by kernel_rfl) (by kernel_rfl) (by kernel_rfl) (fun _ _ _ h => h) HS0.out (Or.inl ⟨rfl, fun w1 hw1 => by go_simp⟩) ?_
                            simp only [Act.put, List.setIfInBounds_toArray, List.set_cons_zero, List.set_cons_succ]
                            refine wpAnyK_takeTo 3 (some 173) (.int .i64 (m : Int)) [] rfl rfl (by kernel_rfl) (by kernel_rfl) (by kernel_rfl) (by kernel_rfl) (fun _ _ _ h => h) HS0.out (Or.inl ⟨rfl, fun w1 hw1 => by obtain ⟨x1, x2⟩ := hw1; go_simp⟩) ?_
                            simp only [Act.put, List.setIfInBounds_toArray, List.set_cons_zero, List.set_cons_succ]
                            refine wpAnyK_takeTo 4 (some 174) (.int .i64 ((first + m : Nat) : Int)) [] rfl rfl (by kernel_rfl) (by kernel_rfl) (by kernel_rfl) (by kernel_rfl) (fun _ _ _ h => h) HS0.out (Or.inl ⟨rfl, fun w1 hw1 => by go_simp; first | done | omega⟩) ?_
                            simp only [Act.put, List.setIfInBounds_toArray, List.set_cons_zero, List.set_cons_succ]
                            refine wpAnyK_takeTo 5 (some 175) (.pointer (some ⟨Bo, 1, none⟩)) [] rfl rfl (by kernel_rfl) (by kernel_rfl) (by kernel_rfl) (by kernel_rfl) (fun _ _ _ h => h) HS0.out (Or.inl ⟨rfl, fun w1 hw1 => by go_simp⟩) ?_
                            simp only [Act.put, List.setIfInBounds_toArray, List.set_cons_zero, List.set_cons_succ]
                            refine wpAnyK_takeTo 6 (some 176) (.slice oa on_ oc) [] rfl rfl (by kernel_rfl) (by kernel_rfl) (by kernel_rfl) (by kernel_rfl) (fun _ _ _ h => h) HS0.out (Or.inl ⟨rfl, fun w1 hw1 => by obtain ⟨x1, x2⟩ := hw1; go_simp⟩) ?_
                            simp only [Act.put, List.setIfInBounds_toArray, List.set_cons_zero, List.set_cons_succ]
                            refine wpAnyK_one (i := 7) (by kernel_rfl) rfl rfl ?_
                            refine wp_call_to (some 177) rfl 20 #[.slice oa on_ oc] (by go_simp) (sector_any oa on_ oc ol V0 (HOK0.out.data.fr HFD.out (fun _ _ _ _ h => h))) ?_
                            rintro x V1 ⟨rfl, hbl1, f1, hz1⟩
                            have HF1 := hide ((HFD.out.trans f1).mono (Y := fun _ => False) (by simp))
                            have HB1 := hide ((f1.block Bo (by omega) (fun h => h)).trans HB0.out)
                            have HRE1 := hide (HRED.out.kept f1)
                            have HRF1 := hide (HRFD.out.kept f1)
                            have HS1 := hide (op_two HB1.out)
                            have HBL1 := hide hbl1
                            clear f1 hbl1
                            refine ⟨_, rfl, fun _ => HS1.out, ?_⟩
                            simp only [Act.put, List.setIfInBounds_toArray, List.set_cons_zero, List.set_cons_succ]
                            refine wpAnyK_one (i := 8) (by kernel_rfl) rfl rfl ?_
                            refine wp_call_to (some 178) rfl 19 #[.pointer (some ⟨b, 0, none⟩), .int .i64 ((first + m : Nat) : Int), .slice (some ⟨V0.heap.size, 0, none⟩) 256 256] (by go_simp) (write_any HRE1.out.dk ((first + m : Nat) : Int) (by omega) (by have := HFM.out; omega) V0.heap.size 0 256 (secB ol) (length_secB ol) (fun j v hv => by rw [cell_of_row _ _ _ _ _ _ HBL1.out, Nat.zero_add]; simpa using hv) (fun h => by cases h) (by simp)) ?_
                            rintro x V2 ⟨rfl, pv2, d2, p2, f2⟩
                            have hX2 : ∀ q, ¬ q = b → ¬ (q = b ∨ (Value.slice none 0 0).ownBlock = some q) := by intro q h1 h; rcases h with h | h; exact h1 h; cases h
                            have hz2 := f2.size
                            have HF2 := hide ((HF1.out.trans f2).mono (Y := fun _ => False) (by intro q hq h; have := HSEP.out.lb; rcases h with h | h | h; exact h; omega; cases h))
                            have HB2 := hide ((f2.block Bo (by omega) (hX2 Bo HNB.out.1)).trans HB1.out)
                            have HRF2 := hide (HRF1.out.fr f2 (hX2 B9 HSEP.out.n9b) (hX2 B14 HSEP.out.n14b) (fun q hq => hX2 q (fun h => HSEP.out.ab_ (h ▸ hq))))
                            have HD2 := hide d2
                            have hl1 := HRF1.out.lt
                            have HPV2 := hide (show pv2.ownBlock ≠ some B9 from fun h => by rcases p2 with h1 | ⟨q, h1, h2⟩; (rw [h1] at h; cases h); (rw [h1] at h; cases h; omega))
                            clear f2 d2 p2 hX2
                            refine ⟨_, rfl, fun _ => op_two HB2.out, ?_⟩
                            simp only [Act.put, List.setIfInBounds_toArray, List.set_cons_zero, List.set_cons_succ]
                            refine wpAnyK_done (by kernel_rfl) ?_ _
                            clear HS0 HS1 HB0 HB1 HRED HRFD HRE1 HRF1 HFD HF1 HBL1 HREAL HREF HFA
                            have hT2 : (([] : List (Nat × List UInt8)) ++ [(((first + m : Nat) : Int).toNat, secB ol)]) = [(first + m, secB ol)] := by rw [List.nil_append, Int.toNat_natCast]
                            rw [hT2] at HD2
                            clear hT2
                            obtain ⟨Ln, hLn⟩ : ∃ Ln, Ln = [(first + m, secB ol)] := ⟨_, rfl⟩
                            rw [← hLn] at HD2
                            have HLN := hide hLn
                            clear hLn
                            have FD := Fr.drew V2 (fun _ => False)
                            have HF3 := hide ((HF2.out.trans FD).mono (Y := fun _ => False) (by simp))
                            have hV2 : Bo < V2.heap.size := by omega
                            have HB3 := hide ((FD.block Bo hV2 (fun h => h)).trans HB2.out)
                            have HRF3 := hide (HRF2.out.kept FD)
                            have HD3 := hide (HD2.out.kept FD)
                            have hz3 := FD.size
                            have HS2 := hide (show Two V2.drew B9 (.slice a1 S1.length c1) (.slice none 0 0) ∧ V2.drew.cell? ⟨Bo, 1, none⟩ = some (.slice oa on_ oc) ∧ V2.drew.cell? ⟨Bo, 2, none⟩ = some (.int .i64 (m : Int)) from ⟨HRF3.out.b9, (op_two HB3.out).1, (op_two HB3.out).2⟩)
                            clear FD HF2 HB2 HRF2 HD2
                            go_wp2_with fail
                            refine wp_region_K (fun j => decide (j < 10)) (fun V => Two V B9 (.slice a1 S1.length c1) (.slice none 0 0) ∧ V.cell? ⟨Bo, 1, none⟩ = some (.slice oa on_ oc) ∧ V.cell? ⟨Bo, 2, none⟩ = some (.int .i64 (m : Int))) (by kernel_rfl) ?_
                            generalize V2.drew = V3 at *
                            refine wpAnyK_takeTo 0 (some 180) (.agg #[.slice a1 S1.length c1, .slice none 0 0]) [9, 10, 11, 12, 13] rfl rfl (by kernel_rfl) (by kernel_rfl) (by kernel_rfl) (by kernel_rfl) (fun _ _ _ h => h) HS2.out (Or.inl ⟨rfl, fun w1 hw1 => by obtain ⟨⟨x0, x1, _⟩, _⟩ := hw1; go_simp⟩) ?_
                            simp only [Act.put, List.setIfInBounds_toArray, List.set_cons_zero, List.set_cons_succ]
                            refine wpAnyK_takeTo 1 (some 181) (.int .i64 (first : Int)) [4, 9, 10, 11, 12, 13] rfl rfl (by kernel_rfl) (by kernel_rfl) (by kernel_rfl) (by kernel_rfl) (fun _ _ _ h => h) HS2.out (Or.inl ⟨rfl, fun w1 hw1 => by go_simp⟩) ?_
                            simp only [Act.put, List.setIfInBounds_toArray, List.set_cons_zero, List.set_cons_succ]
                            refine wpAnyK_takeTo 2 (some 182) (.pointer (some ⟨Bo, 2, none⟩)) [3, 4, 9, 10, 11, 12, 13] rfl rfl (by kernel_rfl) (by kernel_rfl) (by kernel_rfl) (by kernel_rfl) (fun _ _ _ h => h) HS2.out (Or.inl ⟨rfl, fun w1 hw1 => by go_simp⟩) ?_
                            simp only [Act.put, List.setIfInBounds_toArray, List.set_cons_zero, List.set_cons_succ]
                            refine wpAnyK_takeTo 3 (some 183) (.int .i64 (m : Int)) [4, 9, 10, 11, 12, 13] rfl rfl (by kernel_rfl) (by kernel_rfl) (by kernel_rfl) (by kernel_rfl) (fun _ _ _ h => h) HS2.out (Or.inl ⟨rfl, fun w1 hw1 => by obtain ⟨_, x1, x2⟩ := hw1; go_simp⟩) ?_
                            simp only [Act.put, List.setIfInBounds_toArray, List.set_cons_zero, List.set_cons_succ]
                            refine wpAnyK_takeTo 4 (some 184) (.int .i64 ((first + m : Nat) : Int)) [9, 10, 11, 12, 13] rfl rfl (by kernel_rfl) (by kernel_rfl) (by kernel_rfl) (by kernel_rfl) (fun _ _ _ h => h) HS2.out (Or.inl ⟨rfl, fun w1 hw1 => by go_simp; first | done | omega⟩) ?_
                            simp only [Act.put, List.setIfInBounds_toArray, List.set_cons_zero, List.set_cons_succ]
                            refine wpAnyK_takeTo 5 (some 185) (.pointer (some ⟨Bo, 1, none⟩)) [6, 7, 8, 9, 10, 11, 12, 13] rfl rfl (by kernel_rfl) (by kernel_rfl) (by kernel_rfl) (by kernel_rfl) (fun _ _ _ h => h) HS2.out (Or.inl ⟨rfl, fun w1 hw1 => by go_simp⟩) ?_
                            simp only [Act.put, List.setIfInBounds_toArray, List.set_cons_zero, List.set_cons_succ]
                            refine wpAnyK_takeTo 6 (some 186) (.slice oa on_ oc) [7, 8, 9, 10, 11, 12, 13] rfl rfl (by kernel_rfl) (by kernel_rfl) (by kernel_rfl) (by kernel_rfl) (fun _ _ _ h => h) HS2.out (Or.inl ⟨rfl, fun w1 hw1 => by obtain ⟨_, x1, x2⟩ := hw1; go_simp⟩) ?_
                            simp only [Act.put, List.setIfInBounds_toArray, List.set_cons_zero, List.set_cons_succ]
                            refine wpAnyK_one (i := 7) (by kernel_rfl) rfl rfl ?_
                            refine wp_call_to (some 187) rfl 20 #[.slice oa on_ oc] (by go_simp) (sector_any oa on_ oc ol V3 (HOK0.out.data.fr HF3.out (fun _ _ _ _ h => h))) ?_
                            rintro x V4 ⟨rfl, hbl4, f4, hz4⟩
                            have HF4 := hide ((HF3.out.trans f4).mono (Y := fun _ => False) (by simp))
                            have HB4 := hide ((f4.block Bo (by omega) (fun h => h)).trans HB3.out)
                            have HRF4 := hide (HRF3.out.kept f4)
                            have HD4 := hide (HD3.out.kept f4)
                            have HS4 := hide (show Two V4 B9 (.slice a1 S1.length c1) (.slice none 0 0) ∧ V4.cell? ⟨Bo, 1, none⟩ = some (.slice oa on_ oc) ∧ V4.cell? ⟨Bo, 2, none⟩ = some (.int .i64 (m : Int)) from ⟨HRF4.out.b9, (op_two HB4.out).1, (op_two HB4.out).2⟩)
                            have hcv := run_string V4 _ 256 256 (secB ol) (BI.block (l := secB ol) hbl4 256 (length_secB ol)).bin
                            clear f4 hbl4 HS2 HF3 HB3 HRF3 HD3
                            refine ⟨_, rfl, fun _ => HS4.out, ?_⟩
                            simp only [Act.put, List.setIfInBounds_toArray, List.set_cons_zero, List.set_cons_succ]
                            refine wpAnyK_one (i := 8) (by kernel_rfl) rfl rfl ?_
                            go_simp
                            first | refine ⟨HS4.out, ?_⟩ | refine ⟨fun _ => HS4.out, ?_⟩
                            clear hcv
                            refine wpAnyK_one (i := 9) (by kernel_rfl) rfl rfl ?_
                            refine wp_call_to (some 189) rfl 21 #[.agg #[.slice a1 S1.length c1, .slice none 0 0], .int .i64 ((first + m : Nat) : Int), .string (strOf (secB ol))] (by go_simp) (rput_any HRF4.out.rf (first + m) HFM.out (secB ol) (length_secB ol) (by have := HS6.out; omega) (by simp)) ?_
                            rintro x V5 ⟨a3, c3, a4, c4, rfl, r5, g5, e5, f5⟩
                            rw [List.nil_append, ← HLN.out] at r5 e5
                            rw [List.nil_append, ← HLN.out]
                            have hz5 := f5.size
                            have HF5 := hide ((HF4.out.trans f5).mono (Y := fun _ => False) (by simp))
                            have HB5 := hide ((f5.block Bo (by omega) (fun h => h)).trans HB4.out)
                            have HRF5 := hide (HRF4.out.kept f5)
                            have HD5 := hide (HD4.out.kept f5)
                            have HR5 := hide r5
                            have hl4 := HRF4.out.lt
                            have hd4 := HD4.out.bl
                            have HG5 := hide (show ∀ q, (Value.slice a3 S1.length c3).ownBlock = some q → q ≠ b ∧ q ≠ gs ∧ q ≠ B9 ∧ q ≠ B14 from fun q hq => by have := g5 q hq; exact ⟨by omega, by omega, by omega, by omega⟩)
                            have HE5 := hide (show ∀ q, (Value.slice a4 Ln.length c4).ownBlock = some q → q ≠ b ∧ q ≠ gs ∧ q ≠ B9 ∧ q ≠ B14 from fun q hq => by have := e5 q hq; exact ⟨by omega, by omega, by omega, by omega⟩)
                            have hpv5 : pv2.ownBlock ≠ some B9 := HPV2.out
                            clear f5 r5 g5 e5 hl4 hd4
                            refine ⟨_, rfl, fun _ => ⟨HRF5.out.b9, (op_two HB5.out).1, (op_two HB5.out).2⟩, ?_⟩
                            simp only [Act.put, List.setIfInBounds_toArray, List.set_cons_zero, List.set_cons_succ]
                            refine wpAnyK_free _ _ _ _ (fun j hj => by rcases Nat.lt_or_ge j 10 with h1 | h1; (exfalso; revert hj; match j, h1 with | 0, _ => decide | 1, _ => decide | 2, _ => decide | 3, _ => decide | 4, _ => decide | 5, _ => decide | 6, _ => decide | 7, _ => decide | 8, _ => decide | 9, _ => decide); exact decide_eq_false (by omega)) ?_
                            have hTT : True := trivial
                            refine wpAnyK_takeTo 10 (some 179) (.tuple #[.agg #[.slice a3 S1.length c3, .slice a4 Ln.length c4], .int .i64 0]) [] rfl rfl (by kernel_rfl) (by kernel_rfl) (by kernel_rfl) (by kernel_rfl) (fun _ _ _ h => h) hTT (Or.inl ⟨rfl, fun w1 hw1 => by go_simp⟩) ?_
                            simp only [Act.put, List.setIfInBounds_toArray, List.set_cons_zero, List.set_cons_succ]
                            refine wpAnyK_takeTo 11 (some 190) (.agg #[.slice a3 S1.length c3, .slice a4 Ln.length c4]) [] rfl rfl (by kernel_rfl) (by kernel_rfl) (by kernel_rfl) (by kernel_rfl) (fun _ _ _ h => h) hTT (Or.inl ⟨rfl, fun w1 hw1 => by go_simp⟩) ?_
                            simp only [Act.put, List.setIfInBounds_toArray, List.set_cons_zero, List.set_cons_succ]
                            refine wpAnyK_takeTo 12 (some 191) (.int .i64 0) [] rfl rfl (by kernel_rfl) (by kernel_rfl) (by kernel_rfl) (by kernel_rfl) (fun _ _ _ h => h) hTT (Or.inl ⟨rfl, fun w1 hw1 => by go_simp⟩) ?_
                            simp only [Act.put, List.setIfInBounds_toArray, List.set_cons_zero, List.set_cons_succ]
                            obtain ⟨q0, q1, q2⟩ := HRF5.out.b9
                            refine wpAnyK_one (i := 13) (by kernel_rfl) rfl rfl ?_
                            go_simp
                            first | refine ⟨fun h => by cases h, ?_⟩ | skip
                            refine wpAnyK_done (by kernel_rfl) ?_ _
                            have FS := Fr.store2 V5 B9 (.slice a3 S1.length c3) (.slice a4 Ln.length c4)
                            have HT9 := hide (HRF5.out.b9.store (.slice a3 S1.length c3) (.slice a4 Ln.length c4))
                            have HD9 := hide (HD5.out.apart FS (fun h => HSEP.out.n9b h.symm) (fun h => HSEP.out.n9s h.symm) (fun q hq h => hpv5 (h ▸ hq)))
                            have HR9 := hide (HR5.out.fr FS (fun q hq h => (HG5.out q hq).2.2.1 h) (fun q hq h => (HE5.out q hq).2.2.1 h))
                            have H149 := hide (HRF5.out.b14.fr FS (fun h => HSEP.out.n914 h.symm))
                            have HF9 := hide ((HF5.out.trans FS).mono (Y := fun _ => False) (by intro q hq h; have := HSEP.out.l9; rcases h with h | h; exact h; omega))
                            have HB9 := hide ((FS.block Bo (by omega) HNB.out.2.2.2.1).trans HB5.out)
                            clear q0 q1 q2 FS hTT HD5 HR5 HRF5 HF5 HB5 HS4 HB4 HRF4 HF4 HD4
                            generalize ((V5.setCell ⟨B9, 0, none⟩ (.slice a3 S1.length c3)).setCell ⟨B9, 1, none⟩ (.slice a4 Ln.length c4)) = V9 at *
                            go_wp2
                            go_meet
                            exact ⟨pv2, Ln, a3, c3, a4, c4, by rw [HLN.out]; simp, HD9.out, HR9.out, HT9.out, H149.out, fun q hq => ⟨(HG5.out q hq).1, (HG5.out q hq).2.1⟩, fun q hq => ⟨(HE5.out q hq).1, (HE5.out q hq).2.1⟩, HB9.out, HF9.out⟩
                        | false =>
                          clear hβ
                          go_wp2
                          go_meet
                          exact ⟨.slice none 0 0, [], a1, c1, none, 0, by simp, HREAL.out.dk, HREF.out.rf, HREF.out.b9, HREF.out.b14, fun q hq => ⟨fun h => HSEP.out.ab_ (h ▸ hq), fun h => HSEP.out.as_ (h ▸ hq)⟩, fun q hq => (by cases hq), HBo.out, HFA.out⟩
                      case rest =>
                        as_aux_lemma =>
                          have hS16 := HREAL.out.sl
                          have HLENS := hide HREAL.out.dk.lens
                          clear HREAL HREF HFA HBo x0 x1 x2 x3 x4 x5
                          obtain ⟨pv, L', a3, c3, a4, c4, hL1, hdc, hrc, ht9, h14, hq3, hq4, hbo, hfx⟩ := hcut
                          have HDC := hide hdc
                          have HRC := hide hrc
                          have HT9 := hide ht9
                          have H14 := hide h14
                          have HQ3 := hide hq3
                          have HQ4 := hide hq4
                          have HBO := hide hbo
                          have HFX := hide hfx
                          have HLW := hide hdc.lenw
                          have HS6 := hide (show S1.length = 6 from hS16)
                          obtain ⟨x3, x4, x5⟩ := op_last hbo
                          have HKP := hide (HOK0.out.keep.keep (gs := gs) (hfx.mono (fun _ _ h => h.elim)) hgw)
                          clear hdc hrc ht9 h14 hq3 hq4 hbo hfx hS16
                          go_wp2_with fail
                          refine (crash_any HDC.out ka kl kc kb HKP.out t0 t1 (by omega)).mono ?_
                          rintro x W5 ⟨rfl, Cs5, d5, f5⟩
                          have hX5 : ∀ q, ¬ q = b → ¬ q = gs → ¬ (q = gs ∨ q = b) := by intro q h1 h2 h; rcases h with h | h; exact h2 h; exact h1 h
                          have hz5 := f5.size
                          obtain ⟨S5, hS5⟩ : ∃ S5, S5 = laysTo S1 L' (crashN kb t0 (min (max t1 0) 256).toNat) L'.length := ⟨_, rfl⟩
                          rw [← hS5] at d5
                          have hb5 := (f5.block Bo (by have := World.block_lt_of_cell? wc _ x3; exact this) (hX5 Bo HNB.out.1 HNB.out.2.1)).trans HBO.out
                          have HD5 := hide d5
                          have HRC5 := hide (HRC.out.fr f5 (fun q hq => hX5 q (HQ3.out q hq).1 (HQ3.out q hq).2) (fun q hq => hX5 q (HQ4.out q hq).1 (HQ4.out q hq).2))
                          have HT5 := hide (HT9.out.fr f5 (hX5 B9 HSEP.out.n9b HSEP.out.n9s))
                          have H145 := hide (H14.out.fr f5 (hX5 B14 HSEP.out.n14b HSEP.out.n14s))
                          have HF5 := hide ((HFX.out.trans f5).mono (Y := fun _ => False) (by intro q hq h; rcases h with h | h | h; exact h; omega; omega))
                          have HB5 := hide hb5
                          have HSE5 := hide hS5
                          clear x3 x4 x5
                          obtain ⟨x3, x4, x5⟩ := op_last hb5
                          obtain ⟨y0, y1, y2⟩ := HT5.out
                          clear d5 f5 hb5 hS5 HDC HRC HT9 H14 HFX HBO HKP hX5 HQ3 HQ4
                          go_wp2_with fail
                          refine (rcrash_some HRC5.out ka kl kc kb (HOK0.out.keep.fr HF5.out) t0 t1 (by have := HS6.out; omega) (by have := HS6.out; omega) (by omega) HLENS.out HLW.out).mono ?_
                          rintro x W6 ⟨a6, c6, rfl, r6, g6, f6⟩
                          rw [crash_same S1 L' kb t0 t1 HLW.out, ← HSE5.out] at r6
                          have hl5 : S5.length = S1.length := by rw [HSE5.out, laysTo_length]
                          have HL5 := hide hl5
                          have hz6 := f6.size
                          have hbd5 := HD5.out.bl
                          have hb95 : B9 < W5.heap.size := World.block_lt_of_cell? W5 _ y0
                          have hb145 : B14 < W5.heap.size := World.block_lt_of_cell? W5 _ H145.out.c0
                          have HT6 := hide (HT5.out.fr f6 (fun h => h))
                          obtain ⟨q0, q1, q2⟩ := HT6.out
                          have FS := Fr.store2 W6 B9 (.slice a6 S1.length c6) (.slice none 0 0)
                          have HT7 := hide (HT6.out.store (.slice a6 S1.length c6) (.slice none 0 0))
                          have HD7 := hide ((HD5.out.kept f6).apart FS (fun h => HSEP.out.n9b h.symm) (fun h => HSEP.out.n9s h.symm) (fun q hq => by cases hq))
                          have HR7 := hide (r6.fr FS (fun q hq h => by rw [hl5] at hq; have := g6 q hq; omega) (fun q hq => by cases hq))
                          have H147 := hide ((H145.out.fr f6 (fun h => h)).fr FS (fun h => HSEP.out.n914 h.symm))
                          have HF7 := hide (((HF5.out.trans f6).trans FS).mono (Y := fun _ => False) (by intro q hq h; have := HSEP.out.l9; rcases h with (h | h) | h; exact h; exact h; omega))
                          have HG6 := hide (show ∀ q, (Value.slice a6 S1.length c6).ownBlock = some q → q ≠ b ∧ q ≠ gs from fun q hq => by have := g6 q hq; exact ⟨by omega, by omega⟩)
                          clear y0 y1 y2 x3 x4 x5 f6 r6 g6 FS hl5 HD5 HRC5 HT5 H145 HF5 HB5 HT6 HSE5 HLW
                          go_upto_region 37 with fail
                          generalize ((W6.setCell ⟨B9, 0, none⟩ (.slice a6 S1.length c6)).setCell ⟨B9, 1, none⟩ (.slice none 0 0)) = W7 at *
                          clear q0 q1 q2
                          have HS5 := hide (show S5.length = 6 by rw [HL5.out]; exact HS6.out)
                          go_wp2_with fail
                          refine (open_in HD7.out first count hc1 (by have := HS5.out; omega) (by have := HS5.out; omega) (by simp)).mono ?_
                          rintro x W8 ⟨v8, M8, e8, s8, g8, tb8, Cs8, S8, rfl, t1_, t2_, r8, l8, d8, sl, sk, so, gg, vg, tq, f8⟩
                          have hX8 : ∀ q, ¬ q = b → ¬ q = gs → ¬ (q = b ∨ q = gs ∨ (Value.slice none 0 0).ownBlock = some q) := by intro q h1 h2 h; rcases h with h | h | h; exact h1 h; exact h2 h; cases h
                          have h78 := f8.size
                          have hgl := l8.lt
                          have hb97 : B9 < W7.heap.size := World.block_lt_of_cell? W7 _ HT7.out.1
                          have hb147 : B14 < W7.heap.size := World.block_lt_of_cell? W7 _ H147.out.c0
                          have HR8 := hide (HR7.out.fr f8 (fun q hq => hX8 q (HG6.out q (by rw [← HL5.out]; exact hq)).1 (HG6.out q (by rw [← HL5.out]; exact hq)).2) (fun q hq => by cases hq))
                          have HT8 := hide (HT7.out.fr f8 (hX8 B9 HSEP.out.n9b HSEP.out.n9s))
                          have H148 := hide (H147.out.fr f8 (hX8 B14 HSEP.out.n14b HSEP.out.n14s))
                          have HF8 := hide ((HF7.out.trans f8).mono (Y := fun _ => False) (by intro q hq h1; rcases h1 with h1 | h1 | h1 | h1; exact h1; omega; omega; cases h1))
                          have HL8 := hide l8
                          have HD8 := hide d8
                          have HS8 := hide sl
                          have HSK := hide sk
                          have HSO := hide so
                          have HRE8 := hide r8
                          have HTQ := hide tq
                          have HT1 := hide t1_
                          have HT2 := hide t2_
                          obtain ⟨y0, y1, y2⟩ := HT8.out
                          have HY := hide (show S1.length = S5.length from HL5.out.symm)
                          clear l8 d8 sl sk so r8 tq vg f8 t1_ t2_ HF7 HT7 HR7 H147 hX8 hbd5 hb95 hb145 hz5 hz6
                          rw [HL5.out.symm] at y0
                          go_wp2_with fail
                          refine (open_ref HR8.out HD7.out.lens HD7.out.lenw (fun n hn => HD7.out.latest_length n hn) first count hc1 (by have := HS5.out; omega) (by have := HS5.out; omega) (by simp)).mono ?_
                          rintro x W9 ⟨a9', c9', v9, R9, e9, s9, rfl, q1, q2, q3, q4, q5, q6, f9⟩
                          obtain ⟨rR, re, rs⟩ := q1.unique q2 HT1.out HT2.out
                          have hel := HT1.out.le
                          rw [re] at q5
                          rw [ref_opened HD7.out.lens HD7.out.lenw (fun n hn => HD7.out.latest_length n hn) (by have := HS5.out; omega) hel.1 HS8.out HSK.out HSO.out] at q5
                          obtain ⟨St8, hSt⟩ : ∃ St8, St8 = (bytesOf S5 [] first count).take e8 := ⟨_, rfl⟩
                          have hSe : e8 = St8.length := by rw [hSt, List.length_take]; omega
                          rw [rR] at q3
                          rw [re, rs, ← hSt, ← HS8.out]
                          rw [← HS8.out] at q6
                          rw [← hSt] at HL8 HSK
                          rw [hSe] at HL8 ⊢
                          clear rR re rs q1 q2 hel hSt hSe
                          unfold logV
                          have h89 := f9.size
                          have HT9 := hide (HT8.out.fr f9 (fun h => h))
                          have H149 := hide (H148.out.fr f9 (fun h => h))
                          have HREAL9 := hide (RealOk.kept (w := W8) ⟨HD8.out, HL8.out, by rw [HS8.out]; exact HS5.out, fun k hk => by rw [List.take_length]; exact HSK.out k hk⟩ f9)
                          have hal := q5.sx.lt
                          have HF9 := hide ((HF8.out.trans f9).mono (Y := fun _ => False) (by simp))
                          have HSEP9 := hide (show Sep w.heap.size b gs g8 B9 B14 tb8 (Value.slice a9' S8.length c9').ownBlock from
                            { HSEP.out with lg := (by have := HF8.out.size; have := HSP.out.2.1; omega), ltb := (fun q hq => by have := (HTQ.out q hq).1; have := HSP.out.2.1; omega), lab := (fun q hq => by have := q6 q hq; have := HSP.out.2.1; omega), n9g := (by omega), n14g := (by omega), t9 := (fun h => by have := (HTQ.out _ h).1; omega), t14 := (fun h => by have := (HTQ.out _ h).1; omega), ab_ := (fun h => by have := q6 _ h; have := HD8.out.bl; omega), as_ := (fun h => by have := q6 _ h; have := HD8.out.bl; omega), ag := (fun h => by have := q6 _ h; omega), a9 := (fun h => by have := q6 _ h; omega), a14 := (fun h => by have := q6 _ h; omega), at_ := (fun q hq h => by have := q6 _ h; have := hgl.2 q hq; omega) })
                          have HRA := hide (RecsAt.fr HRE8.out f9 (fun _ h => h.elim))
                          have HQ3 := hide q3
                          have HQ4 := hide q4
                          have HQ5 := hide q5
                          have hM8 : M8.length ≤ 1048576 := by have h1 := HL8.out.chain.lt.2; have h2 := HL8.out.fits; simp [plainR] at h1; omega
                          have FA9 := Fr.store2 W9 B9 (.slice a9' S8.length c9') (.slice none 0 0)
                          obtain ⟨z0, z1, z2⟩ := HT9.out
                          obtain ⟨k0, k1, k2, k3, k4, k5⟩ := H149.out.fr FA9 (fun h => HSEP9.out.n914 h.symm)
                          clear y0 y1 y2 f9 q3 q4 q5 q6 hal FA9 HT8 H148 HF8 HR8 HD8 HL8 HRE8 HTQ HT1 HT2 HSK HSO
                          go_upto_region 39 with fail
                          obtain ⟨hbz, hfz⟩ := both_stored (w0 := w) HREAL9.out HQ5.out HT9.out H149.out HSEP9.out HF9.out rfl
                          have FW := ((Fr.store2 W9 B9 (.slice a9' S8.length c9') (.slice none 0 0)).trans (Fr.store5 ((W9.setCell ⟨B9, 0, none⟩ (.slice a9' S8.length c9')).setCell ⟨B9, 1, none⟩ (.slice none 0 0)) B14 (.string (strOf St8)) (.int .u32 (s8 : Int)) (.int .i64 (St8.length : Int)) (.int .i64 (first : Int)) (.int .i64 (count : Int))))
                          have HRA0 := hide (RecsAt.fr HRA.out FW (fun q h => by rcases h with h | h; omega; omega))
                          have HRR0 := hide (show RefRecs _ v9 (plainR M8) from ownsRow_fr HQ3.out FW (fun q hq h => by have := HQ4.out q hq; rcases h with h | h; omega; omega))
                          have HBZ := hide hbz
                          have HFZ := hide hfz
                          clear FW hbz hfz z0 z1 z2 k0 k1 k2 k3 k4 k5 HREAL9 HQ5 HT9 H149 HSEP9 HF9 HRA HQ3 HQ4
                          generalize ((((((W9.setCell ⟨B9, 0, none⟩ (.slice a9' S8.length c9')).setCell ⟨B9, 1, none⟩ (.slice none 0 0)).setCell ⟨B14, 0, none⟩ (.string (strOf St8))).setCell ⟨B14, 1, none⟩ (.int .u32 (s8 : Int))).setCell ⟨B14, 2, none⟩ (.int .i64 (St8.length : Int))).setCell ⟨B14, 3, none⟩ (.int .i64 (first : Int))).setCell ⟨B14, 4, none⟩ (.int .i64 (count : Int)) = W10 at *
                          go_wp2_with fail
                          refine (records_any HRA0.out HRR0.out hM8).mono ?_
                          rintro x W11 ⟨rfl, f11⟩
                          have HBY := hide (HBZ.out.kept f11)
                          have HFY := hide ((HFZ.out.trans f11).mono (Y := fun _ => False) (by simp))
                          clear f11 HRA0 HRR0 HBZ HFZ
                          go_wp2
                          go_meet
                          exact ⟨g8, rfl, HBY.out, HFY.out⟩
                · have b3 : (kind == 3) = false := by rw [beq_eq_false_iff_ne]; omega
                  have b4 : (kind == 4) = false := by rw [beq_eq_false_iff_ne]; omega
                  go_wp2
                  go_meet
                  exact ⟨g', rfl, ⟨_, _, _, _, _, _, _, _, _, HREAL.out, HREF.out, HSEP.out⟩, HFA.out⟩
        case rest =>
          as_aux_lemma =>
            clear HREAL HREF HSEP HNB HFA HOK HOK0 HBo hBow hon holn
            obtain ⟨g2, rfl, hb2, hf2⟩ := hcut
            obtain ⟨tb2, Cs2, S, R, St, dur, sum, a2, c2, hre, hrf, hsep⟩ := hb2
            have HREAL := hide hre
            have HREF := hide hrf
            have HSEP := hide hsep
            have HFW := hide hf2
            clear hre hrf hsep hf2
            have hzS : (strOf St).size = St.length := size_strOf St
            have hfit := HREAL.out.lg.fits
            have k1 : IntKind.i64.wrap ((count : Int) * 256) = (count : Int) * 256 := by rw [IntKind.wrap_i64]; omega
            have k2 : IntKind.i64.wrap ((count : Int) * 256 - (St.length : Int)) = (count : Int) * 256 - (St.length : Int) := by rw [IntKind.wrap_i64]; omega
            have wk : IntKind.i64.wrap ((k : Int) + 1) = (k : Int) + 1 := by rw [IntKind.wrap_i64]; omega
            have hSx : ∀ V, Fr wc V (fun _ => False) → (Two V B9 (.slice a2 S.length c2) (.slice none 0 0) ∧ Five V B14 (.string (strOf St)) (.int .u32 (sum : Int)) (.int .i64 (dur : Int)) (.int .i64 (first : Int)) (.int .i64 (count : Int))) := fun V hV => ⟨HREF.out.b9.fr hV (fun h => h), HREF.out.b14.fr hV (fun h => h)⟩
            have HWV0 := hide (Fr.drew wc (fun _ => False))
            have HFV0 := hide ((HFW.out.trans HWV0.out).mono (Y := fun _ => False) (by simp))
            have hS0 := hSx _ HWV0.out
            go_wp2_with fail
            refine wp_region_K (fun _ => true) (fun V => Two V B9 (.slice a2 S.length c2) (.slice none 0 0) ∧ Five V B14 (.string (strOf St)) (.int .u32 (sum : Int)) (.int .i64 (dur : Int)) (.int .i64 (first : Int)) (.int .i64 (count : Int))) (by kernel_rfl) ?_
            generalize wc.drew = V0 at *
            refine wpAnyK_takeTo 0 (some 241) (.pointer (some ⟨g2, 0, none⟩)) [] rfl rfl (by kernel_rfl) (by kernel_rfl) (by kernel_rfl) (by kernel_rfl) (fun _ _ _ h => h) hS0 (Or.inl ⟨rfl, fun w1 hw1 => by go_simp⟩) ?_
            simp only [Act.put, List.setIfInBounds_toArray, List.set_cons_zero, List.set_cons_succ]
            refine wpAnyK_takeTo 2 (some 243) (.pointer (some ⟨B14, 0, none⟩)) [] rfl rfl (by kernel_rfl) (by kernel_rfl) (by kernel_rfl) (by kernel_rfl) (fun _ _ _ h => h) hS0 (Or.inl ⟨rfl, fun w1 hw1 => by go_simp⟩) ?_
            simp only [Act.put, List.setIfInBounds_toArray, List.set_cons_zero, List.set_cons_succ]
            refine wpAnyK_takeTo 3 (some 244) (.string (strOf St)) [] rfl rfl (by kernel_rfl) (by kernel_rfl) (by kernel_rfl) (by kernel_rfl) (fun _ _ _ h => h) hS0 (Or.inl ⟨rfl, fun w1 hw1 => by obtain ⟨_, ⟨x0, x1, x2, x3, x4, _⟩⟩ := hw1; go_simp⟩) ?_
            simp only [Act.put, List.setIfInBounds_toArray, List.set_cons_zero, List.set_cons_succ]
            refine wpAnyK_takeTo 4 (some 245) (.int .i64 (St.length : Int)) [] rfl rfl (by kernel_rfl) (by kernel_rfl) (by kernel_rfl) (by kernel_rfl) (fun _ _ _ h => h) hS0 (Or.inl ⟨rfl, fun w1 hw1 => by go_simp⟩) ?_
            simp only [Act.put, List.setIfInBounds_toArray, List.set_cons_zero, List.set_cons_succ]
            refine wpAnyK_one (i := 1) (by kernel_rfl) rfl rfl ?_
            refine wp_call_to (some 242) rfl 24 #[.pointer (some ⟨g2, 0, none⟩)] (by go_simp) (end_in (HREAL.out.kept HWV0.out).lg) ?_
            rintro x V1 ⟨rfl, fq⟩
            have HFV1 := hide ((HFV0.out.trans fq).mono (Y := fun _ => False) (by simp))
            have HWV1 := hide ((HWV0.out.trans fq).mono (Y := fun _ => False) (by simp))
            clear fq
            have hS1 := hSx V1 HWV1.out
            refine ⟨_, rfl, fun _ => hS1, ?_⟩
            simp only [Act.put, List.setIfInBounds_toArray, List.set_cons_zero, List.set_cons_succ]
            refine wpAnyK_takeTo 5 (some 246) (.bool false) [] rfl rfl (by kernel_rfl) (by kernel_rfl) (by kernel_rfl) (by kernel_rfl) (fun _ _ _ h => h) hS1 (Or.inl ⟨rfl, fun w1 hw1 => by go_simp⟩) ?_
            simp only [Act.put, List.setIfInBounds_toArray, List.set_cons_zero, List.set_cons_succ]
            refine wpAnyK_takeTo 6 (some 247) (.bool false) [] rfl rfl (by kernel_rfl) (by kernel_rfl) (by kernel_rfl) (by kernel_rfl) (fun _ _ _ h => h) hS1 (Or.inl ⟨rfl, fun w1 hw1 => by go_simp⟩) ?_
            simp only [Act.put, List.setIfInBounds_toArray, List.set_cons_zero, List.set_cons_succ]
            refine wpAnyK_takeTo 7 (some 248) (.pointer (some ⟨g2, 0, none⟩)) [] rfl rfl (by kernel_rfl) (by kernel_rfl) (by kernel_rfl) (by kernel_rfl) (fun _ _ _ h => h) hS1 (Or.inl ⟨rfl, fun w1 hw1 => by go_simp⟩) ?_
            simp only [Act.put, List.setIfInBounds_toArray, List.set_cons_zero, List.set_cons_succ]
            refine wpAnyK_takeTo 9 (some 250) (.int .i64 (count : Int)) [] rfl rfl (by kernel_rfl) (by kernel_rfl) (by kernel_rfl) (by kernel_rfl) (fun _ _ _ h => h) hS1 (Or.inl ⟨rfl, fun w1 hw1 => by go_simp⟩) ?_
            simp only [Act.put, List.setIfInBounds_toArray, List.set_cons_zero, List.set_cons_succ]
            refine wpAnyK_takeTo 10 (some 251) (.int .i64 ((count : Int) * 256)) [] rfl rfl (by kernel_rfl) (by kernel_rfl) (by kernel_rfl) (by kernel_rfl) (fun _ _ _ h => h) hS1 (Or.inl ⟨rfl, fun w1 hw1 => by go_simp⟩) ?_
            simp only [Act.put, List.setIfInBounds_toArray, List.set_cons_zero, List.set_cons_succ]
            refine wpAnyK_takeTo 11 (some 252) (.pointer (some ⟨B14, 0, none⟩)) [] rfl rfl (by kernel_rfl) (by kernel_rfl) (by kernel_rfl) (by kernel_rfl) (fun _ _ _ h => h) hS1 (Or.inl ⟨rfl, fun w1 hw1 => by go_simp⟩) ?_
            simp only [Act.put, List.setIfInBounds_toArray, List.set_cons_zero, List.set_cons_succ]
            refine wpAnyK_takeTo 12 (some 253) (.string (strOf St)) [] rfl rfl (by kernel_rfl) (by kernel_rfl) (by kernel_rfl) (by kernel_rfl) (fun _ _ _ h => h) hS1 (Or.inl ⟨rfl, fun w1 hw1 => by obtain ⟨_, ⟨x0, x1, x2, x3, x4, _⟩⟩ := hw1; go_simp⟩) ?_
            simp only [Act.put, List.setIfInBounds_toArray, List.set_cons_zero, List.set_cons_succ]
            refine wpAnyK_takeTo 13 (some 254) (.int .i64 (St.length : Int)) [] rfl rfl (by kernel_rfl) (by kernel_rfl) (by kernel_rfl) (by kernel_rfl) (fun _ _ _ h => h) hS1 (Or.inl ⟨rfl, fun w1 hw1 => by go_simp⟩) ?_
            simp only [Act.put, List.setIfInBounds_toArray, List.set_cons_zero, List.set_cons_succ]
            refine wpAnyK_takeTo 14 (some 255) (.int .i64 ((count : Int) * 256 - (St.length : Int))) [] rfl rfl (by kernel_rfl) (by kernel_rfl) (by kernel_rfl) (by kernel_rfl) (fun _ _ _ h => h) hS1 (Or.inl ⟨rfl, fun w1 hw1 => by go_simp⟩) ?_
            simp only [Act.put, List.setIfInBounds_toArray, List.set_cons_zero, List.set_cons_succ]
            refine wpAnyK_one (i := 8) (by kernel_rfl) rfl rfl ?_
            refine wp_call_to (some 249) rfl 25 #[.pointer (some ⟨g2, 0, none⟩)] (by go_simp) (left_in (HREAL.out.kept HWV1.out).lg) ?_
            rintro x V2 ⟨rfl, fq⟩
            have HFV2 := hide ((HFV1.out.trans fq).mono (Y := fun _ => False) (by simp))
            have HWV2 := hide ((HWV1.out.trans fq).mono (Y := fun _ => False) (by simp))
            clear fq
            have hS2 := hSx V2 HWV2.out
            refine ⟨_, rfl, fun _ => hS2, ?_⟩
            simp only [Act.put, List.setIfInBounds_toArray, List.set_cons_zero, List.set_cons_succ]
            refine wpAnyK_takeTo 15 (some 256) (.bool false) [] rfl rfl (by kernel_rfl) (by kernel_rfl) (by kernel_rfl) (by kernel_rfl) (fun _ _ _ h => h) hS2 (Or.inl ⟨rfl, fun w1 hw1 => by go_simp⟩) ?_
            simp only [Act.put, List.setIfInBounds_toArray, List.set_cons_zero, List.set_cons_succ]
            refine wpAnyK_takeTo 16 (some 257) (.bool false) [] rfl rfl (by kernel_rfl) (by kernel_rfl) (by kernel_rfl) (by kernel_rfl) (fun _ _ _ h => h) hS2 (Or.inl ⟨rfl, fun w1 hw1 => by go_simp⟩) ?_
            simp only [Act.put, List.setIfInBounds_toArray, List.set_cons_zero, List.set_cons_succ]
            refine wpAnyK_takeTo 17 (some 258) (.bool false) [] rfl rfl (by kernel_rfl) (by kernel_rfl) (by kernel_rfl) (by kernel_rfl) (fun _ _ _ h => h) hS2 (Or.inl ⟨rfl, fun w1 hw1 => by go_simp⟩) ?_
            simp only [Act.put, List.setIfInBounds_toArray, List.set_cons_zero, List.set_cons_succ]
            refine wpAnyK_takeTo 18 (some 259) (.pointer (some ⟨g2, 0, none⟩)) [] rfl rfl (by kernel_rfl) (by kernel_rfl) (by kernel_rfl) (by kernel_rfl) (fun _ _ _ h => h) hS2 (Or.inl ⟨rfl, fun w1 hw1 => by go_simp⟩) ?_
            simp only [Act.put, List.setIfInBounds_toArray, List.set_cons_zero, List.set_cons_succ]
            refine wpAnyK_takeTo 20 (some 261) (.pointer (some ⟨B14, 2, none⟩)) [] rfl rfl (by kernel_rfl) (by kernel_rfl) (by kernel_rfl) (by kernel_rfl) (fun _ _ _ h => h) hS2 (Or.inl ⟨rfl, fun w1 hw1 => by go_simp⟩) ?_
            simp only [Act.put, List.setIfInBounds_toArray, List.set_cons_zero, List.set_cons_succ]
            refine wpAnyK_takeTo 21 (some 262) (.int .i64 (dur : Int)) [] rfl rfl (by kernel_rfl) (by kernel_rfl) (by kernel_rfl) (by kernel_rfl) (fun _ _ _ h => h) hS2 (Or.inl ⟨rfl, fun w1 hw1 => by obtain ⟨_, ⟨x0, x1, x2, x3, x4, _⟩⟩ := hw1; go_simp⟩) ?_
            simp only [Act.put, List.setIfInBounds_toArray, List.set_cons_zero, List.set_cons_succ]
            refine wpAnyK_one (i := 19) (by kernel_rfl) rfl rfl ?_
            refine wp_call_to (some 260) rfl 26 #[.pointer (some ⟨g2, 0, none⟩)] (by go_simp) (durable_in (HREAL.out.kept HWV2.out).lg) ?_
            rintro x V3 ⟨rfl, hq⟩
            subst hq
            refine ⟨_, rfl, fun _ => hS2, ?_⟩
            simp only [Act.put, List.setIfInBounds_toArray, List.set_cons_zero, List.set_cons_succ]
            refine wpAnyK_takeTo 22 (some 263) (.bool false) [] rfl rfl (by kernel_rfl) (by kernel_rfl) (by kernel_rfl) (by kernel_rfl) (fun _ _ _ h => h) hS2 (Or.inl ⟨rfl, fun w1 hw1 => by go_simp⟩) ?_
            simp only [Act.put, List.setIfInBounds_toArray, List.set_cons_zero, List.set_cons_succ]
            refine wpAnyK_takeTo 23 (some 264) (.bool false) [] rfl rfl (by kernel_rfl) (by kernel_rfl) (by kernel_rfl) (by kernel_rfl) (fun _ _ _ h => h) hS2 (Or.inl ⟨rfl, fun w1 hw1 => by go_simp⟩) ?_
            simp only [Act.put, List.setIfInBounds_toArray, List.set_cons_zero, List.set_cons_succ]
            refine wpAnyK_takeTo 24 (some 265) (.bool false) [] rfl rfl (by kernel_rfl) (by kernel_rfl) (by kernel_rfl) (by kernel_rfl) (fun _ _ _ h => h) hS2 (Or.inl ⟨rfl, fun w1 hw1 => by go_simp⟩) ?_
            simp only [Act.put, List.setIfInBounds_toArray, List.set_cons_zero, List.set_cons_succ]
            refine wpAnyK_takeTo 25 (some 266) (.pointer (some ⟨b, 0, none⟩)) [] rfl rfl (by kernel_rfl) (by kernel_rfl) (by kernel_rfl) (by kernel_rfl) (fun _ _ _ h => h) hS2 (Or.inl ⟨rfl, fun w1 hw1 => by go_simp⟩) ?_
            simp only [Act.put, List.setIfInBounds_toArray, List.set_cons_zero, List.set_cons_succ]
            refine wpAnyK_takeTo 26 (some 267) (.agg #[.slice a2 S.length c2, .slice none 0 0]) [] rfl rfl (by kernel_rfl) (by kernel_rfl) (by kernel_rfl) (by kernel_rfl) (fun _ _ _ h => h) hS2 (Or.inl ⟨rfl, fun w1 hw1 => by obtain ⟨⟨x0, x1, _⟩, _⟩ := hw1; go_simp⟩) ?_
            simp only [Act.put, List.setIfInBounds_toArray, List.set_cons_zero, List.set_cons_succ]
            refine wpAnyK_one (i := 27) (by kernel_rfl) rfl rfl ?_
            refine wp_call_to (some 268) rfl 27 #[.pointer (some ⟨b, 0, none⟩), .agg #[.slice a2 S.length c2, .slice none 0 0]] (by go_simp) (same_any (L2 := []) (HREAL.out.kept HWV2.out).dk (HREF.out.kept HWV2.out).rf rfl (by have := HREAL.out.sl; omega) rfl (by simp) (fun n hn => rfl)) ?_
            rintro x V4 ⟨rfl, fq⟩
            have HFV4 := hide ((HFV2.out.trans fq).mono (Y := fun _ => False) (by simp))
            have HWV4 := hide ((HWV2.out.trans fq).mono (Y := fun _ => False) (by simp))
            clear fq
            have hS4 := hSx V4 HWV4.out
            refine ⟨_, rfl, fun _ => hS4, ?_⟩
            simp only [Act.put, List.setIfInBounds_toArray, List.set_cons_zero, List.set_cons_succ]
            refine wpAnyK_takeTo 28 (some 269) (.bool false) [] rfl rfl (by kernel_rfl) (by kernel_rfl) (by kernel_rfl) (by kernel_rfl) (fun _ _ _ h => h) hS4 (Or.inl ⟨rfl, fun w1 hw1 => by go_simp⟩) ?_
            simp only [Act.put, List.setIfInBounds_toArray, List.set_cons_zero, List.set_cons_succ]
            refine wpAnyK_takeTo 29 (some 270) (.bool false) [] rfl rfl (by kernel_rfl) (by kernel_rfl) (by kernel_rfl) (by kernel_rfl) (fun _ _ _ h => h) hS4 (Or.inl ⟨rfl, fun w1 hw1 => by go_simp⟩) ?_
            simp only [Act.put, List.setIfInBounds_toArray, List.set_cons_zero, List.set_cons_succ]
            refine wpAnyK_done (by kernel_rfl) ?_ _
            have HBZ := hide (show Both V4 w.heap.size b gs g2 B9 B14 first count from ⟨_, _, _, _, _, _, _, _, _, HREAL.out.kept HWV4.out, HREF.out.kept HWV4.out, HSEP.out⟩)
            clear hSx hS0 hS1 hS2 hS4 HREAL HREF HSEP HWV0 HWV1 HWV2 HWV4 HFV0 HFV1 HFV2
            go_wp2
            go_roundw
            case rel => exact ⟨g2, k + 1, rfl, by omega, by go_num, HBZ.out, HFV4.out⟩
            case measure => simp [intOf]; omega
      · have hlt' : ¬ (k : Int) < (L.length : Int) := by omega
        go_wp2
        go_ret
        exact ⟨rfl, HF.out⟩
end Go.Proofs.Ytachppnakmdjhaa
