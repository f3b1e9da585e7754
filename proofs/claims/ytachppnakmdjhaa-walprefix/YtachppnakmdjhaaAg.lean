/- A log that is opened twice: the walk of WalAgain. -/
import Derived.Test.YtachppnakmdjhaaPw
import Derived.Test.YtachppnakmdjhaaOo
namespace Go.Proofs.Ytachppnakmdjhaa
open Go.RowKit
set_option linter.unusedVariables false

theorem ht35 : Try.prog.underlying 35 = some (.slice (Try.prog.elem 35)) := by kernel_rfl
theorem size_elem35 (w : World) : (sizeOf (Try.prog.elem 35)).run Try.prog w = .ok 2 w := by kernel_rfl
set_option maxRecDepth 100000 in
/-- The place of a record. -/
theorem exec_recAt {ρ : Operand → Value} {o : Oper} (x i : Operand) (ho : o.op = .indexAddr 35 x i) (g k n c : Nat) (hx : ρ x = .slice (some ⟨g, 0, none⟩) n c) (hi : ρ i = .int .i64 (k : Int)) (hk : k < n) (w : World) :
    (execOp ρ o).run Try.prog w = .ok (.value (.pointer (some ⟨g, 2 * k, none⟩))) w := by
  have h2 : k * 2 = 2 * k := by omega
  have hkn : (k : Int) < (n : Int) := by omega
  unfold execOp
  simp only [ho, hx, hi]
  go_simp

set_option maxRecDepth 100000 in
set_option maxHeartbeats 8000000 in
theorem again_walk (a : Option Addr) (c : Nat) (L : List (List UInt8)) (o : WOp) (w : World) (hr : Recs w a L) (hn : L.length ≤ 140737488351232) (ho : WOpOk w o) :
    Calls Try.prog 5 #[.slice a L.length c, .agg o.cells.toArray] w fun e w' => e = .returned (.bool true) ∧ Fr w w' (fun _ => False) := by
  obtain ⟨kind, oa, on_, oc, ol, mark, ka, kl, kc, kb, t0, t1⟩ := o
  have HR := hide hr
  have HO := hide ho
  clear hr ho
  unfold WOp.cells
  go_enter Try.func5, Try.ntmps5
  go_wp2_with fail
  have FB := Fr.alloc w (.cells #[.int .i64 kind, .slice oa on_ oc, .int .i64 mark, .slice ka kl kc, .int .i64 t0, .int .i64 t1] 49) (fun _ => False)
  have bB := heap_alloc_new w (.cells #[.int .i64 kind, .slice oa on_ oc, .int .i64 mark, .slice ka kl kc, .int .i64 t0, .int .i64 t1] 49)
  have hzB : (w.alloc (.cells #[.int .i64 kind, .slice oa on_ oc, .int .i64 mark, .slice ka kl kc, .int .i64 t0, .int .i64 t1] 49)).heap.size = w.heap.size + 1 := by simp
  generalize w.alloc (.cells #[.int .i64 kind, .slice oa on_ oc, .int .i64 mark, .slice ka kl kc, .int .i64 t0, .int .i64 t1] 49) = wb at *
  obtain ⟨Bo, hBo⟩ : ∃ Bo, Bo = w.heap.size := ⟨_, rfl⟩
  rw [← hBo] at bB ⊢
  have HBB := hide bB
  have HFB := hide FB
  have HRB := hide (HR.out.fr FB)
  have HOB := hide (HO.out.fr FB)
  have hBol : Bo < wb.heap.size := by omega
  clear FB bB hzB hBo
  refine (awake_any wb).mono ?_
  rintro e w0 ⟨rfl, F0⟩
  have HF0 := hide F0
  clear F0
  go_wp2_with fail
  refine (new_any 8 8 rfl (by omega) (by omega) w0).mono ?_
  rintro x W1 ⟨rfl, d1, s1, f1⟩
  obtain ⟨b, hb⟩ : ∃ b, b = w0.heap.size + 1 := ⟨_, rfl⟩
  obtain ⟨gs, hgs⟩ : ∃ gs, gs = w0.heap.size := ⟨_, rfl⟩
  rw [← hb, ← hgs] at d1
  rw [← hb]
  have HD1 := hide d1
  have hw0 := HF0.out.size
  have HF1 := hide ((HF0.out.trans f1).mono (Y := fun _ => False) (by simp))
  have hbw : wb.heap.size ≤ b := by omega
  have hgw : wb.heap.size ≤ gs := by omega
  have hb1 : b < W1.heap.size := by omega
  have hg1 : gs < W1.heap.size := by omega
  clear d1 f1 hb hgs s1 hw0 HF0
  go_wp2_with fail
  refine (open_in HD1.out 2 5 (by omega) (by simp) (by simp) (by simp)).mono ?_
  rintro x W2 ⟨v, M, e, s, g, tb, Cs', S', rfl, t1_, t2_, r1, l1, d2, sl, sk, so, gg, vg, tq, f2⟩
  obtain ⟨rM, re, rs, rt⟩ := opened Chain.nil (by simp) (new_latest 8 2 5 (by omega)) t1_ t2_
  rw [rt] at l1 sk
  rw [re, rs, rM] at l1
  have HL2 := hide l1
  have HD2 := hide d2
  have hSl : S'.length = 8 := by rw [sl]; simp
  have HSK := hide sk
  have HF2 := hide ((HF1.out.trans f2).mono (Y := fun _ => False) (by intro k hk h1; rcases h1 with h1 | h1 | h1 | h1; exact h1; omega; omega; cases h1))
  have hgw2 : wb.heap.size ≤ g := by have := HF1.out.size; omega
  have HTQ := hide (fun q (hq : tb = some q) => show wb.heap.size ≤ q from by have := (tq q hq).1; have := HF1.out.size; omega)
  clear l1 d2 sk so sl f2 tq vg gg r1 t1_ t2_ rM re rs rt HD1 HF1
  go_wp2_with fail
  go_loopw [43] (fun i wr => ∃ (k : Nat) (Cs : Array Value) (S : List (List UInt8)) (tb : Option Nat) (R : List (Nat × List UInt8)) (St : List UInt8) (sum : Nat), k ≤ L.length ∧ i = .int .i64 (k : Int) ∧ DiskIs wr b gs 8 Cs (.slice none 0 0) S [] ∧ LogIn wr g b gs 2 5 tb R St St.length sum ∧ S.length = 8 ∧ (∀ k, k < 5 → S.getD (2 + k) [] = cellL St k) ∧ (∀ q, tb = some q → wb.heap.size ≤ q) ∧ Fr wb wr (fun _ => False)) (fun i _ => L.length - (intOf i).toNat)
  case atStart => exact ⟨0, Cs', S', tb, _, _, _, by omega, rfl, HD2.out, HL2.out, hSl, HSK.out, HTQ.out, HF2.out⟩
  case round =>
    rename World => W
    clear HD2 HL2 hSl HSK HTQ HF2
    obtain ⟨k, Cs, S, tb, R, St, sum, hk, rfl, hd, hl, hS, hsk, htb, hf⟩ := hrel
    have HD := hide hd
    have HL := hide hl
    have HSK := hide hsk
    have HTB := hide htb
    have HF := hide hf
    clear hd hl hsk htb hf
    by_cases hlt : k < L.length
    · obtain ⟨l, hl⟩ : ∃ l, L[k]? = some l := ⟨_, List.getElem?_eq_getElem hlt⟩
      have hrw := HRB.out.fr HF.out
      obtain ⟨ga, oa', rfl, hcs⟩ := hrw.resolve_left (by intro h; rw [h] at hlt; simp at hlt)
      obtain ⟨y, m, cc, hcell, hbi, hm, hmc, hyc⟩ := hcs k l hl
      have HBI := hide hbi
      have HYC := hide hyc
      clear hrw hcs hbi hyc hl
      go_wp2_with fail
      have FA := Fr.alloc W (.cells #[.slice y m cc] 45) (fun _ => False)
      have b4 := heap_alloc_new W (.cells #[.slice y m cc] 45)
      obtain ⟨hp, hcap⟩ := parts_one b4 (HBI.out.fr FA (fun _ _ _ _ h => h)) (by omega) HYC.out
      have HLc := hide (HL.out.fr FA (fun h => h) (fun _ _ h => h))
      have HDc := hide (HD.out.kept FA)
      have HFc := hide ((HF.out.trans FA).mono (Y := fun _ => False) (by simp))
      clear FA b4 HL HD HF hcell
      generalize W.alloc (.cells #[.slice y m cc] 45) = Wc at *
      refine (append_in HLc.out (HDc.out.bl.1) (HDc.out.bl.2.1) (some ⟨W.heap.size, 0, none⟩) 1 [l] hp (by simp) (by simp; have := HBI.out.1; omega) hcap).mono ?_
      rintro x W5 hx
      obtain ⟨m5, e5, tb5, R5, St5, sum5, rfl, l5, t5, f5, n5⟩ := append_out (n := 0) HLc.out hx
      have HL5 := hide l5
      have HD5 := hide (HDc.out.logged HLc.out f5)
      have HT5 := hide t5
      have HF5 := hide ((HFc.out.trans f5).mono (Y := fun _ => False) (by intro k hk h1; rcases h1 with h1 | h1 | h1; exact h1; omega; have := HTB.out k h1; omega))
      have HTB5 := hide (show ∀ q, tb5 = some q → wb.heap.size ≤ q from fun q hq => by rcases n5 q hq with h1 | h1; exact HTB.out q h1; have := HFc.out.size; omega)
      clear hx l5 t5 f5 n5 hp hcap HLc HDc HFc HTB
      go_wp2_with fail
      refine (flush_in HD5.out HL5.out (fun k hk => by rw [HSK.out k hk, HT5.out, List.take_length]) (by omega) (by omega)).mono ?_
      rintro x W6 ⟨rfl, Cs6, S6, tb6, d6, s6, l6, k6, o6, t6, f6⟩
      have HD6 := hide d6
      have HL6 := hide l6
      have HK6 := hide k6
      have hS6 : S6.length = 8 := by omega
      have HTB6 := hide (show ∀ q, tb6 = some q → wb.heap.size ≤ q from fun q hq => by rcases t6 q hq with h1 | h1; exact HTB5.out q h1; have := HF5.out.size; omega)
      have HF6 := hide ((HF5.out.trans f6).mono (Y := fun _ => False) (by intro k hk h1; rcases h1 with h1 | h1 | h1 | h1; exact h1; omega; omega; omega))
      clear d6 l6 k6 o6 t6 f6 s6 HD5 HL5 HF5 HT5 HTB5 HSK
      go_wp2
      go_roundw
      case rel => exact ⟨k + 1, Cs6, S6, tb6, R5, St5, sum5, by omega, by go_num, HD6.out, HL6.out, hS6, HK6.out, HTB6.out, HF6.out⟩
      case measure => simp [intOf]; omega
    · have hbo := HF.out.block Bo hBol (fun h => h)
      have z1 : W.cell? ⟨Bo, 1, none⟩ = some (.slice oa on_ oc) := by rw [cell_of_row _ _ _ _ _ _ (hbo.trans HBB.out)]; rfl
      have HDATA := hide (HOB.out.data.fr HF.out (fun _ _ _ _ h => h))
      clear HL HTB HSK
      go_wp2_with fail
      refine (sector_any oa on_ oc ol W HDATA.out).mono ?_
      rintro x W3 ⟨rfl, hblk, f3, s3⟩
      have HD3 := hide (HD.out.kept f3)
      have HRG := hide (show W3.rangeAt W.heap.size 0 (enc (secB ol)) by have := bi_range hblk 0 256 (by simp [length_secB]); rwa [List.drop_zero, List.take_of_length_le (by simp [length_secB])] at this)
      have HF3 := hide ((HF.out.trans f3).mono (Y := fun _ => False) (by simp))
      clear hblk f3 z1 HDATA HD HF
      go_wp2_with fail
      refine (write_any HD3.out 3 (by omega) (by omega) W.heap.size 0 256 (secB ol) (length_secB ol) HRG.out (fun h => by cases h) (by simp)).mono ?_
      rintro x W4 ⟨rfl, pv4, d4, p4, f4⟩
      have HD4 := hide d4
      have HF4 := hide ((HF3.out.trans f4).mono (Y := fun _ => False) (by intro k hk h1; rcases h1 with h1 | h1 | h1; exact h1; omega; cases h1))
      have hpv4 : ∀ q, pv4.ownBlock = some q → wb.heap.size ≤ q := fun q hq => by
        rcases p4 with h1 | ⟨k', h1, h2⟩
        · rw [h1] at hq; cases hq
        · rw [h1] at hq; cases hq; have := HF3.out.size; omega
      have hbo4 := HF4.out.block Bo hBol (fun h => h)
      have z3 : W4.cell? ⟨Bo, 3, none⟩ = some (.slice ka kl kc) := by rw [cell_of_row _ _ _ _ _ _ (hbo4.trans HBB.out)]; rfl
      have z4 : W4.cell? ⟨Bo, 4, none⟩ = some (.int .i64 t0) := by rw [cell_of_row _ _ _ _ _ _ (hbo4.trans HBB.out)]; rfl
      have z5 : W4.cell? ⟨Bo, 5, none⟩ = some (.int .i64 t1) := by rw [cell_of_row _ _ _ _ _ _ (hbo4.trans HBB.out)]; rfl
      have HKP := hide (HOB.out.keep.keep (gs := gs) (HF4.out.mono (fun _ _ h => h.elim)) hgw)
      clear d4 p4 f4 HD3 HF3 HRG hbo4
      go_wp2_with fail
      refine (crash_any HD4.out ka kl kc kb HKP.out t0 t1 (by simp)).mono ?_
      rintro x W5 ⟨rfl, Cs5, d5, f5⟩
      have HD5 := hide d5
      have hS5 : (laysTo S [((3 : Int).toNat, secB ol)] (crashN kb t0 (min (max t1 0) 256).toNat) [((3 : Int).toNat, secB ol)].length).length = 8 := by rw [laysTo_length]; exact hS
      have HF5 := hide ((HF4.out.trans f5).mono (Y := fun _ => False) (by intro k hk h1; rcases h1 with h1 | h1 | h1; exact h1; omega; omega))
      obtain ⟨S5, hS5e⟩ : ∃ S5, S5 = laysTo S [((3 : Int).toNat, secB ol)] (crashN kb t0 (min (max t1 0) 256).toNat) [((3 : Int).toNat, secB ol)].length := ⟨_, rfl⟩
      simp only [List.nil_append] at HD5
      rw [← hS5e] at HD5 hS5
      clear d5 f5 HD4 HF4 HKP z3 z4 z5 hS5e hpv4
      go_wp2_with fail
      refine (open_in HD5.out 2 5 (by omega) (by omega) (by omega) (by simp)).mono ?_
      rintro x W6 ⟨v6, M6, e6, s6, g6, tb6, Cs6, S6, rfl, t1', t2', r6, l6, d6, sl6, sk6, so6, gg6, vg6, tq6, f6⟩
      have h5s := HF5.out.size
      have h56 := f6.size
      have HL6 := hide l6
      have HD6 := hide d6
      have HR6 := hide r6
      have hS6 : S6.length = 8 := by omega
      have HK6 := hide sk6
      have HTQ6 := hide (fun q (hq : tb6 = some q) => (tq6 q hq).1)
      have HF6 := hide ((HF5.out.trans f6).mono (Y := fun _ => False) (by intro k hk h1; rcases h1 with h1 | h1 | h1 | h1; exact h1; omega; omega; cases h1))
      have hb5 := HD5.out.bl.1
      have hgs5 := HD5.out.bl.2.1
      obtain ⟨St6, hSt6⟩ : ∃ St6, St6 = (bytesOf S5 [] 2 5).take e6 := ⟨_, rfl⟩
      rw [← hSt6] at HL6 HK6
      have hbl5 := HD5.out
      have he6 : e6 = St6.length := by
        have := t1'.le
        rw [hSt6, List.length_take]; omega
      rw [he6] at HL6
      have hM6 : M6.length ≤ 1280 := by
        have h1 := HL6.out.chain.lt.2
        have h2 := HL6.out.fits
        simp only [plainR, List.length_map] at h1
        omega
      clear l6 d6 r6 sl6 sk6 so6 vg6 tq6 f6 t1' t2' hSt6 hbl5
      go_wp2_with fail
      refine (fork_any HD6.out (by omega) (by simp)).mono ?_
      rintro x W7 ⟨b7, gs7, cs7, Cs7, pv7, rfl, d7, hb7, hgs7, hpv7, f7⟩
      have HDF := hide d7
      have HD7 := hide (HD6.out.kept f7)
      have HL7 := hide (HL6.out.fr f7 (fun h => h) (fun _ _ h => h))
      have h6s := HF6.out.size
      have h67 := f7.size
      have hb6 := HD6.out.bl.1
      have hgs6 := HD6.out.bl.2.1
      have HR7 := hide (HR6.out.fr f7 (fun _ h => h.elim))
      have HF7 := hide ((HF6.out.trans f7).mono (Y := fun _ => False) (by simp))
      have HPV7 := hide hpv7
      clear d7 f7 hpv7 HD6 HL6 HR6 HF6
      go_wp2_with fail
      refine (open_in HD7.out 2 5 (by omega) (by omega) (by omega) (by simp)).mono ?_
      rintro x W8 ⟨v8, M8, e8, s8, g8, tb8, Cs8, S8, rfl, t1', t2', r8, l8, d8, sl8, sk8, so8, gg8, vg8, tq8, f8⟩
      obtain ⟨rM, re, rs, rt⟩ := opened HL7.out.chain HL7.out.fits (fun k hk => by rw [latest_none]; exact HK6.out k hk) t1' t2'
      rw [rt] at l8 sk8
      have h7s := HF7.out.size
      have hX7 : ∀ q, q = b ∨ q = gs ∨ (Value.slice none 0 0).ownBlock = some q → q < W5.heap.size := fun q h => by rcases h with h | h | h; omega; omega; cases h
      have HL8 := hide l8
      have HA8 := hide (HL7.out.fr f8 (fun h => by have := hX7 _ h; omega) (fun q hq h => by have := hX7 _ h; have := HTQ6.out q hq; omega))
      have HDF8 := hide (HDF.out.apart f8 (fun h => by have := hX7 _ h; omega) (fun h => by have := hX7 _ h; omega) (fun q hq h => by have := hX7 _ h; have := HPV7.out q hq; omega))
      have HD8 := hide d8
      have hS8 : S8.length = 8 := by omega
      have HEQ := hide (show ∀ n, n < 8 → S8.getD n [] = S6.getD n [] from fun n hn => by
        by_cases hin : 2 ≤ n ∧ n < 7
        · have h1 := sk8 (n - 2) (by omega)
          have h2 := HK6.out (n - 2) (by omega)
          rw [show 2 + (n - 2) = n by omega] at h1 h2
          rw [h1, h2]
        · rw [so8 n (by omega) (by omega), latest_none])
      have HRA := hide (HR7.out.fr f8 (fun q h => hX7 q h))
      have HRB8 := hide r8
      have HF8 := hide ((HF7.out.trans f8).mono (Y := fun _ => False) (by intro k hk h1; rcases h1 with h1 | h1 | h1 | h1; exact h1; omega; omega; cases h1))
      have HRM := hide rM
      clear l8 d8 r8 sl8 sk8 so8 gg8 vg8 tq8 f8 t1' t2' rM re rs rt HD7 HL7 HDF HR7 HF7 hX7 HTQ6 HPV7 HK6
      have hMl : M8.length = M6.length := by have := congrArg List.length HRM.out; simpa [plainR] using this
      obtain ⟨a6, c6, hv6⟩ : ∃ a6 c6, v6 = .slice a6 M6.length c6 := by
        by_cases h0 : M6 = []
        · obtain ⟨_, a6, c6, h⟩ := HRA.out.nil (by rw [h0]; rfl)
          exact ⟨a6, c6, by rw [h, h0]; rfl⟩
        · obtain ⟨gv, cv, h, _⟩ := HRA.out.shape h0
          exact ⟨_, cv, h⟩
      obtain ⟨a8, c8, hv8⟩ : ∃ a8 c8, v8 = .slice a8 M6.length c8 := by
        rw [← hMl]
        by_cases h0 : M8 = []
        · obtain ⟨_, a6, c6, h⟩ := HRB8.out.nil (by rw [h0]; rfl)
          exact ⟨a6, c6, by rw [h, h0]; rfl⟩
        · obtain ⟨gv, cv, h, _⟩ := HRB8.out.shape h0
          exact ⟨_, cv, h⟩
      subst hv6 hv8
      go_wp2_with fail
      refine (end_in HA8.out).mono ?_
      rintro x W9 ⟨rfl, f9⟩
      have HG9 := hide f9
      clear f9
      go_wp2_with fail
      refine (end_in (HL8.out.fr HG9.out (fun h => h) (fun _ _ h => h))).mono ?_
      rintro x W10 ⟨rfl, f10⟩
      have HG10 := hide ((HG9.out.trans f10).mono (Y := fun _ => False) (by simp))
      clear f10 HG9
      go_wp2_with fail
      refine (durable_in (HA8.out.fr HG10.out (fun h => h) (fun _ _ h => h))).mono ?_
      rintro x Wz ⟨rfl, hz⟩
      obtain rfl := hz.symm
      clear hz
      go_wp2_with fail
      refine (end_in (HA8.out.fr HG10.out (fun h => h) (fun _ _ h => h))).mono ?_
      rintro x W11 ⟨rfl, f11⟩
      have HG11 := hide ((HG10.out.trans f11).mono (Y := fun _ => False) (by simp))
      clear f11 HG10 HA8 HL8
      go_wp2_with fail
      go_loopw [124] (fun i wr => ∃ k : Nat, k ≤ M6.length ∧ i = .int .i64 (k : Int) ∧ Fr W8 wr (fun _ => False)) (fun i _ => M6.length - (intOf i).toNat)
      case atStart => exact ⟨0, by omega, rfl, HG11.out⟩
      case round =>
        rename World => Wr
        obtain ⟨k2, hk2, rfl, hf2⟩ := hrel
        have HGr := hide hf2
        clear hf2
        by_cases hlt2 : k2 < M6.length
        · obtain ⟨gv, cv, hva, hlov, hgvl, hcv⟩ := HRA.out.shape (by intro h; rw [h] at hlt2; simp at hlt2)
          obtain ⟨gw, cw, hwa, hlow, hgwl, hcw⟩ := HRB8.out.shape (by intro h; rw [h] at hMl; simp at hMl; omega)
          rw [hMl] at hwa
          cases hva
          cases hwa
          obtain ⟨ra, hra⟩ : ∃ r, M6[k2]? = some r := ⟨_, List.getElem?_eq_getElem hlt2⟩
          obtain ⟨rb, hrb⟩ : ∃ r, M8[k2]? = some r := ⟨_, List.getElem?_eq_getElem (by omega)⟩
          have heq : rb.mark = ra.mark ∧ rb.data = ra.data := by
            have h1 := congrArg (fun l => l[k2]?) HRM.out
            simp only [plainR, List.getElem?_map, hra, hrb, Option.map_some, Option.some.injEq, Prod.mk.injEq] at h1
            exact h1
          obtain ⟨p0, p1⟩ := hcv k2 ra hra
          obtain ⟨q0, q1⟩ := hcw k2 rb hrb
          have oA := HRA.out.data ra (List.mem_of_getElem? hra)
          have oB := HRB8.out.data rb (List.mem_of_getElem? hrb)
          rw [heq.1] at q0
          rw [heq.2] at q1 oB
          have hbA := oA.bi
          have hbB := oB.bi
          obtain ⟨mk, hmk⟩ : ∃ mk, mk = ra.mark := ⟨_, rfl⟩
          obtain ⟨D, hD⟩ : ∃ D, D = ra.data := ⟨_, rfl⟩
          obtain ⟨dn, hdn⟩ : ∃ dn, dn = D.length := ⟨_, rfl⟩
          obtain ⟨xa, hxa⟩ : ∃ xa, xa = ra.a := ⟨_, rfl⟩
          obtain ⟨xc, hxc⟩ : ∃ xc, xc = ra.c := ⟨_, rfl⟩
          obtain ⟨ya, hya⟩ : ∃ ya, ya = rb.a := ⟨_, rfl⟩
          obtain ⟨yc, hyc⟩ : ∃ yc, yc = rb.c := ⟨_, rfl⟩
          rw [← hmk] at p0 q0
          rw [← hD, ← hdn] at p1 q1 hbA hbB
          rw [← hxa] at hbA
          rw [← hya] at hbB
          rw [← hxa, ← hxc] at p1
          rw [← hya, ← hyc] at q1
          have HS := hide (show ∀ V, Fr W8 V (fun _ => False) → ((V.cell? ⟨gv, 2 * k2, none⟩ = some (.int .i64 (mk : Int)) ∧ V.cell? ⟨gv, 2 * k2 + 1, none⟩ = some (.slice xa dn xc)) ∧ (V.cell? ⟨gw, 2 * k2, none⟩ = some (.int .i64 (mk : Int)) ∧ V.cell? ⟨gw, 2 * k2 + 1, none⟩ = some (.slice ya dn yc)) ∧ BI V xa dn D ∧ BI V ya dn D) from fun V hV => by
            have e1 := hV.block gv hgvl (fun h => h)
            have e2 := hV.block gw hgwl (fun h => h)
            exact ⟨⟨by rw [World.cell?_of_block (w := W8) e1]; exact p0, by rw [World.cell?_of_block (w := W8) e1]; exact p1⟩, ⟨by rw [World.cell?_of_block (w := W8) e2]; exact q0, by rw [World.cell?_of_block (w := W8) e2]; exact q1⟩, hbA.fr hV (fun _ _ _ _ h => h), hbB.fr hV (fun _ _ _ _ h => h)⟩)
          clear hmk hD hdn hxa hxc hya hyc p0 p1 q0 q1 oA oB hbA hbB heq hra hrb hcv hcw
          have hS := HS.out _ ((HGr.out.trans (Fr.drew Wr (fun _ => False))).mono (Y := fun _ => False) (by simp))
          go_wp2_with fail
          refine wp_region_K (fun _ => true) (fun V => (V.cell? ⟨gv, 2 * k2, none⟩ = some (.int .i64 (mk : Int)) ∧ V.cell? ⟨gv, 2 * k2 + 1, none⟩ = some (.slice xa dn xc)) ∧ (V.cell? ⟨gw, 2 * k2, none⟩ = some (.int .i64 (mk : Int)) ∧ V.cell? ⟨gw, 2 * k2 + 1, none⟩ = some (.slice ya dn yc)) ∧ BI V xa dn D ∧ BI V ya dn D) (by kernel_rfl) ?_
          refine wpAnyK_takeTo 0 (some 127) (.slice (some ⟨gv, 0, none⟩) M6.length c6) [] rfl rfl (by kernel_rfl) (by kernel_rfl) (by kernel_rfl) (by kernel_rfl) (fun _ _ _ h => h) hS (Or.inl ⟨rfl, fun w1 hw1 => by go_simp⟩) ?_
          simp only [Act.put, List.setIfInBounds_toArray, List.set_cons_zero, List.set_cons_succ]
          refine wpAnyK_takeTo 1 (some 128) (.int .i64 (k2 : Int)) [] rfl rfl (by kernel_rfl) (by kernel_rfl) (by kernel_rfl) (by kernel_rfl) (fun _ _ _ h => h) hS (Or.inl ⟨rfl, fun w1 hw1 => by go_simp⟩) ?_
          simp only [Act.put, List.setIfInBounds_toArray, List.set_cons_zero, List.set_cons_succ]
          refine wpAnyK_takeTo 2 (some 129) (.pointer (some ⟨gv, 2 * k2, none⟩)) [] rfl rfl (by kernel_rfl) (by kernel_rfl) (by kernel_rfl) (by kernel_rfl) (fun _ _ _ h => h) hS (Or.inl ⟨rfl, fun w1 hw1 => exec_recAt (.tmp 127) (.tmp 128) rfl gv k2 M6.length c6 rfl rfl hlt2 _⟩) ?_
          simp only [Act.put, List.setIfInBounds_toArray, List.set_cons_zero, List.set_cons_succ]
          refine wpAnyK_takeTo 3 (some 130) (.pointer (some ⟨gv, 2 * k2, none⟩)) [] rfl rfl (by kernel_rfl) (by kernel_rfl) (by kernel_rfl) (by kernel_rfl) (fun _ _ _ h => h) hS (Or.inl ⟨rfl, fun w1 hw1 => by go_simp⟩) ?_
          simp only [Act.put, List.setIfInBounds_toArray, List.set_cons_zero, List.set_cons_succ]
          refine wpAnyK_takeTo 4 (some 131) (.int .i64 (mk : Int)) [] rfl rfl (by kernel_rfl) (by kernel_rfl) (by kernel_rfl) (by kernel_rfl) (fun _ _ _ h => h) hS (Or.inl ⟨rfl, fun w1 hw1 => by obtain ⟨⟨x0, x1⟩, ⟨x2, x3⟩, _, _⟩ := hw1; go_simp⟩) ?_
          simp only [Act.put, List.setIfInBounds_toArray, List.set_cons_zero, List.set_cons_succ]
          refine wpAnyK_takeTo 5 (some 132) (.slice (some ⟨gw, 0, none⟩) M6.length c8) [] rfl rfl (by kernel_rfl) (by kernel_rfl) (by kernel_rfl) (by kernel_rfl) (fun _ _ _ h => h) hS (Or.inl ⟨rfl, fun w1 hw1 => by go_simp⟩) ?_
          simp only [Act.put, List.setIfInBounds_toArray, List.set_cons_zero, List.set_cons_succ]
          refine wpAnyK_takeTo 6 (some 133) (.int .i64 (k2 : Int)) [] rfl rfl (by kernel_rfl) (by kernel_rfl) (by kernel_rfl) (by kernel_rfl) (fun _ _ _ h => h) hS (Or.inl ⟨rfl, fun w1 hw1 => by go_simp⟩) ?_
          simp only [Act.put, List.setIfInBounds_toArray, List.set_cons_zero, List.set_cons_succ]
          refine wpAnyK_takeTo 7 (some 134) (.pointer (some ⟨gw, 2 * k2, none⟩)) [] rfl rfl (by kernel_rfl) (by kernel_rfl) (by kernel_rfl) (by kernel_rfl) (fun _ _ _ h => h) hS (Or.inl ⟨rfl, fun w1 hw1 => exec_recAt (.tmp 132) (.tmp 133) rfl gw k2 M6.length c8 rfl rfl hlt2 _⟩) ?_
          simp only [Act.put, List.setIfInBounds_toArray, List.set_cons_zero, List.set_cons_succ]
          refine wpAnyK_takeTo 8 (some 135) (.pointer (some ⟨gw, 2 * k2, none⟩)) [] rfl rfl (by kernel_rfl) (by kernel_rfl) (by kernel_rfl) (by kernel_rfl) (fun _ _ _ h => h) hS (Or.inl ⟨rfl, fun w1 hw1 => by go_simp⟩) ?_
          simp only [Act.put, List.setIfInBounds_toArray, List.set_cons_zero, List.set_cons_succ]
          refine wpAnyK_takeTo 9 (some 136) (.int .i64 (mk : Int)) [] rfl rfl (by kernel_rfl) (by kernel_rfl) (by kernel_rfl) (by kernel_rfl) (fun _ _ _ h => h) hS (Or.inl ⟨rfl, fun w1 hw1 => by obtain ⟨⟨x0, x1⟩, ⟨x2, x3⟩, _, _⟩ := hw1; go_simp⟩) ?_
          simp only [Act.put, List.setIfInBounds_toArray, List.set_cons_zero, List.set_cons_succ]
          refine wpAnyK_takeTo 10 (some 137) (.bool false) [] rfl rfl (by kernel_rfl) (by kernel_rfl) (by kernel_rfl) (by kernel_rfl) (fun _ _ _ h => h) hS (Or.inl ⟨rfl, fun w1 hw1 => by go_simp⟩) ?_
          simp only [Act.put, List.setIfInBounds_toArray, List.set_cons_zero, List.set_cons_succ]
          refine wpAnyK_takeTo 11 (some 138) (.bool false) [] rfl rfl (by kernel_rfl) (by kernel_rfl) (by kernel_rfl) (by kernel_rfl) (fun _ _ _ h => h) hS (Or.inl ⟨rfl, fun w1 hw1 => by go_simp⟩) ?_
          simp only [Act.put, List.setIfInBounds_toArray, List.set_cons_zero, List.set_cons_succ]
          refine wpAnyK_takeTo 12 (some 139) (.slice (some ⟨gv, 0, none⟩) M6.length c6) [] rfl rfl (by kernel_rfl) (by kernel_rfl) (by kernel_rfl) (by kernel_rfl) (fun _ _ _ h => h) hS (Or.inl ⟨rfl, fun w1 hw1 => by go_simp⟩) ?_
          simp only [Act.put, List.setIfInBounds_toArray, List.set_cons_zero, List.set_cons_succ]
          refine wpAnyK_takeTo 13 (some 140) (.int .i64 (k2 : Int)) [] rfl rfl (by kernel_rfl) (by kernel_rfl) (by kernel_rfl) (by kernel_rfl) (fun _ _ _ h => h) hS (Or.inl ⟨rfl, fun w1 hw1 => by go_simp⟩) ?_
          simp only [Act.put, List.setIfInBounds_toArray, List.set_cons_zero, List.set_cons_succ]
          refine wpAnyK_takeTo 14 (some 141) (.pointer (some ⟨gv, 2 * k2, none⟩)) [] rfl rfl (by kernel_rfl) (by kernel_rfl) (by kernel_rfl) (by kernel_rfl) (fun _ _ _ h => h) hS (Or.inl ⟨rfl, fun w1 hw1 => exec_recAt (.tmp 139) (.tmp 140) rfl gv k2 M6.length c6 rfl rfl hlt2 _⟩) ?_
          simp only [Act.put, List.setIfInBounds_toArray, List.set_cons_zero, List.set_cons_succ]
          refine wpAnyK_takeTo 15 (some 142) (.pointer (some ⟨gv, 2 * k2 + 1, none⟩)) [] rfl rfl (by kernel_rfl) (by kernel_rfl) (by kernel_rfl) (by kernel_rfl) (fun _ _ _ h => h) hS (Or.inl ⟨rfl, fun w1 hw1 => by go_simp⟩) ?_
          simp only [Act.put, List.setIfInBounds_toArray, List.set_cons_zero, List.set_cons_succ]
          refine wpAnyK_takeTo 16 (some 143) (.slice xa dn xc) [] rfl rfl (by kernel_rfl) (by kernel_rfl) (by kernel_rfl) (by kernel_rfl) (fun _ _ _ h => h) hS (Or.inl ⟨rfl, fun w1 hw1 => by obtain ⟨⟨x0, x1⟩, ⟨x2, x3⟩, _, _⟩ := hw1; go_simp⟩) ?_
          simp only [Act.put, List.setIfInBounds_toArray, List.set_cons_zero, List.set_cons_succ]
          refine wpAnyK_takeTo 17 (some 144) (.string (strOf D)) [] rfl rfl (by kernel_rfl) (by kernel_rfl) (by kernel_rfl) (by kernel_rfl) (fun _ _ _ h => h) hS (Or.inl ⟨rfl, fun w1 hw1 => exec_string (.tmp 143) rfl rfl hw1.2.2.1⟩) ?_
          simp only [Act.put, List.setIfInBounds_toArray, List.set_cons_zero, List.set_cons_succ]
          refine wpAnyK_takeTo 18 (some 145) (.slice (some ⟨gw, 0, none⟩) M6.length c8) [] rfl rfl (by kernel_rfl) (by kernel_rfl) (by kernel_rfl) (by kernel_rfl) (fun _ _ _ h => h) hS (Or.inl ⟨rfl, fun w1 hw1 => by go_simp⟩) ?_
          simp only [Act.put, List.setIfInBounds_toArray, List.set_cons_zero, List.set_cons_succ]
          refine wpAnyK_takeTo 19 (some 146) (.int .i64 (k2 : Int)) [] rfl rfl (by kernel_rfl) (by kernel_rfl) (by kernel_rfl) (by kernel_rfl) (fun _ _ _ h => h) hS (Or.inl ⟨rfl, fun w1 hw1 => by go_simp⟩) ?_
          simp only [Act.put, List.setIfInBounds_toArray, List.set_cons_zero, List.set_cons_succ]
          refine wpAnyK_takeTo 20 (some 147) (.pointer (some ⟨gw, 2 * k2, none⟩)) [] rfl rfl (by kernel_rfl) (by kernel_rfl) (by kernel_rfl) (by kernel_rfl) (fun _ _ _ h => h) hS (Or.inl ⟨rfl, fun w1 hw1 => exec_recAt (.tmp 145) (.tmp 146) rfl gw k2 M6.length c8 rfl rfl hlt2 _⟩) ?_
          simp only [Act.put, List.setIfInBounds_toArray, List.set_cons_zero, List.set_cons_succ]
          refine wpAnyK_takeTo 21 (some 148) (.pointer (some ⟨gw, 2 * k2 + 1, none⟩)) [] rfl rfl (by kernel_rfl) (by kernel_rfl) (by kernel_rfl) (by kernel_rfl) (fun _ _ _ h => h) hS (Or.inl ⟨rfl, fun w1 hw1 => by go_simp⟩) ?_
          simp only [Act.put, List.setIfInBounds_toArray, List.set_cons_zero, List.set_cons_succ]
          refine wpAnyK_takeTo 22 (some 149) (.slice ya dn yc) [] rfl rfl (by kernel_rfl) (by kernel_rfl) (by kernel_rfl) (by kernel_rfl) (fun _ _ _ h => h) hS (Or.inl ⟨rfl, fun w1 hw1 => by obtain ⟨⟨x0, x1⟩, ⟨x2, x3⟩, _, _⟩ := hw1; go_simp⟩) ?_
          simp only [Act.put, List.setIfInBounds_toArray, List.set_cons_zero, List.set_cons_succ]
          refine wpAnyK_takeTo 23 (some 150) (.string (strOf D)) [] rfl rfl (by kernel_rfl) (by kernel_rfl) (by kernel_rfl) (by kernel_rfl) (fun _ _ _ h => h) hS (Or.inl ⟨rfl, fun w1 hw1 => exec_string (.tmp 149) rfl rfl hw1.2.2.2⟩) ?_
          simp only [Act.put, List.setIfInBounds_toArray, List.set_cons_zero, List.set_cons_succ]
          refine wpAnyK_takeTo 24 (some 151) (.bool false) [] rfl rfl (by kernel_rfl) (by kernel_rfl) (by kernel_rfl) (by kernel_rfl) (fun _ _ _ h => h) hS (Or.inl ⟨rfl, fun w1 hw1 => by go_simp⟩) ?_
          simp only [Act.put, List.setIfInBounds_toArray, List.set_cons_zero, List.set_cons_succ]
          refine wpAnyK_takeTo 25 (some 152) (.bool false) [] rfl rfl (by kernel_rfl) (by kernel_rfl) (by kernel_rfl) (by kernel_rfl) (fun _ _ _ h => h) hS (Or.inl ⟨rfl, fun w1 hw1 => by go_simp⟩) ?_
          simp only [Act.put, List.setIfInBounds_toArray, List.set_cons_zero, List.set_cons_succ]
          refine wpAnyK_done (by kernel_rfl) ?_ _
          clear hS
          have HGd := hide ((HGr.out.trans (Fr.drew Wr (fun _ => False))).mono (Y := fun _ => False) (by simp))
          have wk : IntKind.i64.wrap ((k2 : Int) + 1) = (k2 : Int) + 1 := by rw [IntKind.wrap_i64]; omega
          go_wp2
          go_roundw
          case rel => exact ⟨k2 + 1, by omega, by go_num, HGd.out⟩
          case measure => simp [intOf]; omega
        · go_wp2_with fail
          go_loopw [20] (fun i wr => ∃ k : Nat, k ≤ 8 ∧ i = .int .i64 (k : Int) ∧ Fr W8 wr (fun _ => False)) (fun i _ => 8 - (intOf i).toNat)
          case atStart => exact ⟨0, by omega, rfl, HGr.out⟩
          case round =>
            rename World => Ws
            obtain ⟨k3, hk3, rfl, hf3⟩ := hrel
            have HGs := hide hf3
            clear hf3
            by_cases hlt3 : k3 < 8
            · go_wp2_with fail
              refine (read_any (HD8.out.kept HGs.out) _ k3 rfl (by omega) (by simp)).mono ?_
              rintro x Wt ⟨rfl, hblk, hsz, ft⟩
              rw [latest_none, HEQ.out k3 hlt3] at hblk
              have hlen := HDF8.out.lens (S6.getD k3 []) (by rw [List.getD_eq_getElem?_getD, List.getElem?_eq_getElem (by omega)]; exact List.getElem_mem _)
              have HBt := hide (BI.block (l := S6.getD k3 []) hblk 256 hlen)
              have HGt := hide ((HGs.out.trans ft).mono (Y := fun _ => False) (by simp))
              clear hblk ft hsz
              go_wp2_with fail
              refine (read_any (HDF8.out.kept HGt.out) _ k3 rfl (by omega) (by simp)).mono ?_
              rintro x Wu ⟨rfl, hblk, hsz, fu⟩
              rw [latest_none] at hblk
              have hc1 := run_string Wu _ 256 256 _ (HBt.out.fr fu (fun _ _ _ _ h => h)).bin
              have hc2 := run_string Wu _ 256 256 _ (BI.block (l := S6.getD k3 []) hblk 256 hlen).bin
              have HGu := hide ((HGt.out.trans fu).mono (Y := fun _ => False) (by simp))
              obtain ⟨sec, hsec⟩ : ∃ sec, sec = S6.getD k3 [] := ⟨_, rfl⟩
              rw [← hsec] at hc1 hc2
              clear hblk fu hsz HGt HBt hlen hsec
              have wk : IntKind.i64.wrap ((k3 : Int) + 1) = (k3 : Int) + 1 := by rw [IntKind.wrap_i64]; omega
              go_wp2
              go_roundw
              case rel => exact ⟨k3 + 1, by omega, by go_num, HGu.out⟩
              case measure => simp [intOf]; omega
            · have HDr := hide (HD8.out.kept HGs.out)
              have HFz := hide (((HFB.out.trans HF8.out).trans HGs.out).mono (Y := fun _ => False) (by simp))
              go_wp2_with fail
              refine (pending_any b none 0 0 Ws HDr.out.cell1).mono ?_
              rintro x Wz ⟨rfl, hz⟩
              obtain rfl := hz.symm
              clear hz
              go_wp2
              go_ret
              exact ⟨rfl, HFz.out⟩
end Go.Proofs.Ytachppnakmdjhaa
