/- The walk of TrailReports. -/
import Derived.Test.YtcmabldfegcdaaaRc
import Derived.Test.YtcmabldfegcdaaaRf
import Derived.Test.YtcmabldfegcdaaaRg
namespace Go.Proofs.Ytcmabldfegcdaaa
open Go.RowKit
set_option maxRecDepth 100000
set_option linter.unusedVariables false
set_option linter.unusedSimpArgs false

def litE : Er := (⟨3, 4, 0, 0, 9, []⟩, none, 0)
abbrev litO : Obj := .cells #[.int .i64 3, .int .i64 4, .int .i64 0, .int .i64 0, .int .i64 9, .slice none 0 0] 31
theorem lit_ents (w : World) : EntsAt (w.alloc litO) (some ⟨w.heap.size, 0, none⟩) [litE] := by
  intro i x hx
  cases i with
  | succ i => simp at hx
  | zero =>
    simp only [List.getElem?_cons_zero, Option.some.injEq] at hx
    subst hx
    refine ⟨_, rfl, fun j u hu => ?_⟩
    rw [cell_of_row _ _ _ _ _ _ (heap_alloc_new w _)]
    simpa [ecells, litE] using hu
theorem lit_C : (runS [] [litE] 1).C = [⟨4, 9⟩] := by simp [runS, stepS, Sn.none, litE]
theorem lit_f (x : Int) : (runS [] [litE] 1).f x = if x = 4 then some 1 else none := by simp [runS, stepS, Sn.none, litE]
theorem lit_m {m : Int} (h1 : ∀ x, In64 x → ((runS [] [litE] 1).f x).isSome = true → x ≤ m) (h2 : m = 0 ∨ (In64 m ∧ ((runS [] [litE] 1).f m).isSome = true)) : m = 4 := by
  have h3 := h1 4 (by unfold In64; omega) (by rw [lit_f]; rfl)
  rcases h2 with h2 | ⟨_, h2⟩
  · omega
  · rw [lit_f] at h2
    by_cases h : m = 4
    · exact h
    · rw [if_neg h] at h2; cases h2
theorem OwnI.marks {w : World} {v : Value} {M : List Int} (h : OwnI w v M) : ∃ a c, v = .slice a M.length c ∧ MarksAt w a M := by
  obtain ⟨a, c, rfl, _⟩ := h.shape
  exact ⟨a, c, rfl, fun k x hx => h.at k x hx⟩

set_option maxHeartbeats 8000000 in
theorem reports_walk {w : World} (a ma : Option Addr) (c mc n mn : Nat) (L : List Er) (M : List Int) (hln : L.length = n) (hL : EntsIn w a L) (hin : ∀ x ∈ L, In64 x.1.txn ∧ In64 x.1.page) (hn : n ≤ 2199023255552) (hM : MarksIn w ma M) (hmn : M.length = mn) (hmc : ma = none → mc = 0) (hmb : mn ≤ 17592186044416) :
    Calls Try.prog 3 #[.slice a n c, .slice ma mn mc] w fun x w' => x = .returned (.bool true) ∧ Fr w w' (fun _ => False) := by
  have HL := hide hL
  have HLN := hide hln
  have HIN := hide hin
  have HM := hide hM
  have HMN := hide hmn
  have HMC := hide hmc
  have HLE := hide (lit_ents w)
  have HLF := hide (Fr.alloc w litO (fun _ => False))
  clear hL hln hin hM hmn hmc
  go_enter Try.func3, Try.ntmps3
  go_wp2_with fail
  refine (analyse_any (w := w.alloc litO) (some ⟨w.heap.size, 0, none⟩) none 1 0 [litE] [] HLE.out (fun k v h => by simp at h) (fun x hx => by simp at hx; subst hx; exact ⟨by unfold In64 litE; simp, by unfold In64 litE; simp⟩) (by simp)).mono ?_
  rintro x W1 ⟨cv, lv, pv, m, Z, T, rfl, hC, hZ, hT, _, _, _, _, h0, hx1, hx2, _, _, _, f1⟩
  have hm := lit_m hx1 hx2
  subst hm
  rw [show (runS [] [litE] [litE].length).C = [⟨4, 9⟩] from lit_C] at hC
  obtain ⟨ca, cc, rfl⟩ := shape_n hC
  obtain ⟨la, lm, lc, rfl⟩ := ownsRow_shape hZ
  obtain ⟨pa, pm, pc, rfl⟩ := ownsRow_shape hT
  obtain ⟨ga, hga, _, k9⟩ := hC.cell (i := 0) rfl rfl
  subst hga
  have HF1 := hide ((HLF.out.trans f1).mono (Y := fun _ => False) (fun k _ h => h.elim id id))
  have FB := Fr.alloc W1 (.cells #[.slice (some ⟨ga, 0, none⟩) 1 cc, .slice la lm lc, .slice pa pm pc, .int .i64 4] 27) (fun _ => False)
  have k9' : (W1.alloc (.cells #[.slice (some ⟨ga, 0, none⟩) 1 cc, .slice la lm lc, .slice pa pm pc, .int .i64 4] 27)).cell? ⟨ga, 1, none⟩ = some (.int .i64 9) := by
    rw [World.cell?_of_block (w := W1) (FB.block ga (World.block_lt_of_cell? W1 _ k9) (fun h => h))]; exact k9
  have HF2 := hide ((HF1.out.trans FB).mono (Y := fun _ => False) (fun k _ h => h.elim id id))
  clear hC hZ hT h0 hx1 hx2 f1 k9 FB HF1 HLE HLF
  simp only [List.length_cons, List.length_nil, Nat.zero_add]
  go_wp2_with fail
  refine (awake_any _).mono ?_
  rintro x W3 ⟨rfl, f3⟩
  have HF3 := hide ((HF2.out.trans f3).mono (Y := fun _ => False) (fun k _ h => h.elim id id))
  clear f3 HF2 k9'
  go_wp2_with fail
  go_loopw [6, 35] (fun v i wr => ∃ (k : Nat), k ≤ n ∧ i = .int .i64 (k : Int) ∧ OwnD wr v ((L.map Prod.fst).take k) ∧ (∀ q, v.ownBlock = some q → w.heap.size ≤ q) ∧ Fr w wr (fun _ => False)) (fun _ i _ => n - (intOf i).toNat)
  case atStart => exact ⟨0, Nat.zero_le _, rfl, OwnD.nil _, fun q hq => (by cases hq), HF3.out⟩
  case round =>
    rename World => W4
    obtain ⟨k, hk, rfl, ho, hv, hfr⟩ := hrel
    have HO := hide ho
    have HV := hide hv
    have HF := hide hfr
    clear ho hv hfr HF3
    rcases Nat.lt_or_ge k n with hlt | hge
    · obtain ⟨x, hx⟩ : ∃ x, L[k]? = some x := ⟨_, List.getElem?_eq_getElem (by rw [HLN.out]; exact hlt)⟩
      obtain ⟨⟨g, off, hag, hrow⟩, hbi, hac, hdl⟩ := HL.out k x hx
      have hrow := rangeAt_fr hrow HF.out (fun h => h)
      have HX := hide hx
      obtain ⟨e, ea, ec⟩ := x
      have x0 := hrow 0 _ rfl
      have x1 := hrow 1 _ rfl
      have x2 := hrow 2 _ rfl
      have x3 := hrow 3 _ rfl
      have x4 := hrow 4 _ rfl
      have x5 := hrow 5 _ rfl
      simp only [Nat.add_zero] at x0 x1 x2 x3 x4 x5 hbi hac hdl
      rw [hag]
      have F1 := Fr.alloc W4 (.cells #[.int .i64 e.kind, .int .i64 e.txn, .int .i64 e.page, .int .i64 e.slot, .int .i64 e.stamp, .slice ea e.data.length ec] 31) (fun _ => False)
      have hP := plain_any e ea ec (W4.alloc (.cells #[.int .i64 e.kind, .int .i64 e.txn, .int .i64 e.page, .int .i64 e.slot, .int .i64 e.stamp, .slice ea e.data.length ec] 31)) ((hbi.fr HF.out (fun _ _ _ _ h => h)).fr F1 (fun _ _ _ _ h => h))
      unfold entV docV at hP
      have HP := hide hP
      have HO1 := hide (HO.out.fr F1 (fun _ _ h => h))
      have HFA := hide ((HF.out.trans F1).mono (Y := fun _ => False) (fun k _ h => h.elim id id))
      clear hx hrow hag hac hbi hP F1
      go_wp2_with fail
      refine HP.out.mono ?_
      rintro x W5 ⟨rfl, f5⟩
      have HO2 := hide (HO1.out.fr f5 (fun _ _ h => h))
      have HFB := hide ((HFA.out.trans f5).mono (Y := fun _ => False) (fun k _ h => h.elim id id))
      clear f5 HO HO1 HF HFA x0 x1 x2 x3 x4 x5 HP
      go_wp2_with (refine wpList_pushD rfl (.tmp 39) (.tmp 42) rfl u6 ((L.map Prod.fst).take k) rfl HO2.out e _ rfl rfl (by have := List.length_take_le k (L.map Prod.fst); omega) ?_; intro v' W6 ho hf hr; have HO3 := hide ho; have HFC := hide ((HFB.out.trans hf).mono (Y := fun _ => False) (by intro q hq h; rcases h with h | h; exact h; have := HV.out q h; omega)); have HV3 := hide (hr.le HFB.out.size HV.out); clear ho hf hr)
      go_roundw
      case rel => exact ⟨k + 1, by omega, by go_num, by have := HO3.out; rw [show (L.map Prod.fst).take k ++ [e] = (L.map Prod.fst).take (k + 1) by rw [List.take_add_one, List.getElem?_map, HX.out]; rfl] at this; exact this, HV3.out, HFC.out⟩
      case measure => simp [intOf]; omega
    · have e1 : n = k := by omega
      subst e1
      obtain ⟨E, hE⟩ : ∃ E, L.map Prod.fst = E := ⟨_, rfl⟩
      have hEn : E.length = n := by rw [← hE, List.length_map, HLN.out]
      have HO1 : Hid (OwnD W4 u6 E) := hide (by have := HO.out; rw [hE, List.take_of_length_le (Nat.le_of_eq hEn)] at this; exact this)
      obtain ⟨da, dc, hu6⟩ := shape_n HO1.out
      rw [hEn] at hu6
      subst hu6
      have HIE : Hid (∀ e ∈ E, In64 e.txn ∧ In64 e.page) := hide (fun e he => by rw [← hE] at he; obtain ⟨x, hx, rfl⟩ := List.mem_map.1 he; exact HIN.out x hx)
      have HEE := hide hE
      have HEN := hide hEn
      have hem := emptyI
      clear hE hEn HO
      go_wp2_with fail
      refine (copied_any a c n L HLN.out (HL.out.fr HF.out) (by omega)).mono ?_
      rintro x W5 ⟨v1, La, rfl, o1, hma, u1, f5⟩
      have hla : La.length = n := by have := congrArg List.length hma; rw [List.length_map, List.length_map, HLN.out] at this; exact this
      obtain ⟨aa, ac, hv1, hEa⟩ := o1.ents
      rw [hla] at hv1
      subst hv1
      have FA := Fr.alloc W5 (.cells #[] 2) (fun _ => False)
      have HMA : Hid (La.map Prod.fst = E) := hide (by rw [hma, HEE.out])
      have HLA := hide hla
      have HF5 := hide ((HF.out.trans f5).mono (Y := fun _ => False) (fun k _ h => h.elim id id))
      have HO5 := hide (HO1.out.fr f5 (fun _ _ h => h))
      have HOE := hide o1
      have HEI := hide (own_emptyI W5)
      have HMI := hide ((HM.out.fr HF5.out).fr FA)
      have HFA := hide FA
      clear o1 hma u1 f5 hEa hla FA HO1 HF
      go_wp2_with (refine wpList_catI rfl (.tmp 47) (.tmp 48) rfl _ [] rfl HEI.out ma mc mn M HMN.out rfl HMI.out HMC.out (by simp; omega) ?_; intro v' W6 ho hf hr; rw [List.nil_append] at ho; have HO6 := hide ho; have HF56 := hide ((HFA.out.trans hf).mono (Y := fun _ => False) (by intro q hq h; rcases h with h | h; exact h; (have h := Option.some.inj h; simp only [] at h; omega))); obtain ⟨va, vc, hv', hmv⟩ := ho.marks; rw [HMN.out] at hv'; subst hv'; have HMV := hide hmv; clear ho hf hr hmv)
      have HOE6 := hide (HOE.out.fr HF56.out (fun _ _ h => h))
      have HO66 := hide (HO5.out.fr HF56.out (fun _ _ h => h))
      have HF6 := hide ((HF5.out.trans HF56.out).mono (Y := fun _ => False) (fun k _ h => h.elim id id))
      have hAn := analyse_any (w := W6) aa va ac vc La M (by obtain ⟨a', c', h1, h2⟩ := HOE6.out.ents; injection h1 with h3 h4 h5; rw [h3]; exact h2) HMV.out (in_map (HMA.out.trans HEE.out.symm) HIN.out) (by rw [HLA.out]; omega)
      rw [HLA.out, HMN.out] at hAn
      clear HEI HMI HFA HF56 HOE HO5 HF5 hem
      refine hAn.mono ?_
      rintro x W7 ⟨cv, lv, pv, m, Z, T, rfl, hC, hZ, hT, hp1, hz1, hp2, hz2, h0, hx1, hx2, _, _, _, f7⟩
      rw [run_dE M HMA.out n] at hC hz1 hz2 hx1 hx2
      have hm := last_eq M E HEN.out HIE.out h0 hx1 hx2
      subst hm
      obtain ⟨ca, cc, hcv⟩ := shape_n hC
      obtain ⟨pa, pc, hpv⟩ := shape_n hT
      obtain ⟨la, lc, hlv⟩ := shape_n hZ
      obtain ⟨p1, hp1e⟩ : ∃ p1, (runS M (dE E) n).C.length = p1 := ⟨_, rfl⟩
      obtain ⟨p2, hp2e⟩ : ∃ p2, Z.length = p2 := ⟨_, rfl⟩
      obtain ⟨p3, hp3e⟩ : ∃ p3, T.length = p3 := ⟨_, rfl⟩
      rw [hp1e] at hcv
      rw [hp2e] at hlv
      rw [hp3e] at hpv
      subst hcv
      subst hlv
      subst hpv
      have hb1 : p1 ≤ 2199023255552 := by have := length_runS M (dE E) n; omega
      have hb3 : p3 ≤ 2199023255552 := by
        have h1 := sub_len (T.map Tch.page) (pagP E n) (by rw [List.nodup_iff_pairwise_ne, List.pairwise_map]; exact hp2.imp (fun h => by omega)) (by
          intro p hp
          obtain ⟨y, hy, rfl⟩ := List.mem_map.1 hp
          have := ((hz2 y).1 hy).2
          have h3 := run_pag M E n (Nat.le_of_eq HEN.out.symm) y.page
          exact h3.1 (by rw [this]; rfl))
        have h2 := length_pagP E n
        rw [List.length_map] at h1
        omega
      have HF7 := hide ((HF6.out.trans f7).mono (Y := fun _ => False) (fun k _ h => h.elim id id))
      have HO7 := hide (HO66.out.fr f7 (fun _ _ h => h))
      have HRP := hide (report_any (w := W7) ca la pa p1 p2 p3 cc lc pc (lastP E n) _ T hC hT hp1e hp3e hb1 hb3)
      have HZ7 := hide hZ
      have HPW := hide (And.intro hp1 hz1)
      have HTW := hide (And.intro hp2 hz2)
      have HE1 := hide hp1e
      have HE2 := hide hp2e
      have HE3 := hide hp3e
      clear hC hZ hT hp1 hz1 hp2 hz2 h0 hx1 hx2 f7 hp1e hp2e hp3e hb1 hb3 hAn HF6 HO66 HOE6 HMV HO6
      go_wp2_with fail
      refine HRP.out.mono ?_
      rintro x W8 ⟨cv', pv', rfl, hC', hT', f8⟩
      obtain ⟨ca', cc', hcv⟩ := shape_n hC'
      obtain ⟨pa', pc', hpv⟩ := shape_n hT'
      rw [HE1.out] at hcv
      rw [HE3.out] at hpv
      subst hcv
      subst hpv
      have HZ8 := hide (HZ7.out.fr f8 (fun _ _ h => h))
      have HO8 := hide (HO7.out.fr f8 (fun _ _ h => h))
      have HF8 := hide ((HF7.out.trans f8).mono (Y := fun _ => False) (fun k _ h => h.elim id id))
      have HC8 := hide hC'
      have HT8 := hide hT'
      clear hC' hT' f8 HRP HZ7 HO7 HF7
      go_wp2_with fail
      refine (ranalyse_any (w := W8) da ma dc mc n mn E M (HO8.out.ents HEN.out) (HM.out.fr HF8.out) HEN.out HMN.out hn).mono ?_
      rintro x W9 ⟨cw, lw, pw, Z', P, rfl, gC, gZ, gT, g1, g2, g3, g4, f9⟩
      have eZ := losers_eq M E HEN.out HIE.out HPW.out.1 HPW.out.2 g1 g2
      have eT := pages_eq M E HEN.out HIE.out HTW.out.1 HTW.out.2 g3 g4
      rw [← eT] at gT
      rw [← eZ] at gZ
      obtain ⟨cb, cd, hcw⟩ := shape_n gC
      obtain ⟨lb, ld, hlw⟩ := shape_n gZ
      obtain ⟨pb, pd, hpw⟩ := shape_n gT
      rw [HE1.out] at hcw
      rw [HE2.out] at hlw
      rw [HE3.out] at hpw
      subst hcw
      subst hlw
      subst hpw
      have HSM := hide (same_any (w := W9) ca' la pa' cb lb pb cc' lc pc' cd ld pd p1 p2 p3 (lastP E n) _ Z T (HC8.out.fr f9 (fun _ _ h => h)) gC (HZ8.out.fr f9 (fun _ _ h => h)) gZ (HT8.out.fr f9 (fun _ _ h => h)) gT HE1.out HE2.out HE3.out)
      have HF9 := hide ((HF8.out.trans f9).mono (Y := fun _ => False) (fun k _ h => h.elim id id))
      clear gC gZ gT g1 g2 g3 g4 f9 eZ eT HC8 HT8 HZ8 HO8 HF8
      go_wp2_with fail
      refine HSM.out.mono ?_
      rintro x W10 ⟨rfl, f10⟩
      have HFA := hide ((HF9.out.trans f10).mono (Y := fun _ => False) (fun k _ h => h.elim id id))
      clear f10
      go_wp2
      go_ret
      exact ⟨rfl, HFA.out⟩
end Go.Proofs.Ytcmabldfegcdaaa
