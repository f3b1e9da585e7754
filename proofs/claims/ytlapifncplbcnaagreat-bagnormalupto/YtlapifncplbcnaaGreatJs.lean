/- pairs: the walk. -/
import Derived.Test.YtlapifncplbcnaaGreatJr
namespace Go.Proofs.YtlapifncplbcnaaGreat
open Go.RowKit Go.Sort Go.Shelf
set_option maxRecDepth 100000
set_option linter.unusedVariables false
set_option linter.unusedSimpArgs false

def lenV : Value → Nat
  | .slice _ n _ => n
  | _ => 0
def GoodS (N : Int) (s : St) : Prop := 0 ≤ s.n ∧ s.n ≤ N ∧ 0 ≤ s.lo ∧ s.lo < s.hi ∧ s.hi ≤ 1099511627776
theorem own_rowat {w U : World} {va : Value} {T : List St} {ga : Nat} {X : Nat → Prop} (h : Own elS w va T) (hg : va.ownBlock = some ga) (hf : Fr w U X) (hx : ¬ X ga) : Row elS U (some ⟨ga, 0, none⟩) T := by
  obtain ⟨a', c', e1, _, _, _, e2⟩ := h.shape
  rw [e1] at h hg
  have h2 := h.row
  cases a' with
  | none => cases hg
  | some z =>
    obtain ⟨g', e3⟩ := e2 z rfl
    subst e3
    injection hg with hg
    subst hg
    exact h2.fr hf (fun g' o' e _ => by injection e with e; injection e with e1 _; subst e1; exact hx)
theorem row_drop {w : World} {ga : Nat} {T : List St} (i : Nat) (h : Row elS w (some ⟨ga, 0, none⟩) T) (hi : i ≤ T.length) : Row elS w (some ⟨ga, i * 4, none⟩) (T.drop i) := by
  have e : T = T.take i ++ T.drop i ++ [] := by simp
  rw [e] at h
  have h2 := h.part
  have e1 : 0 + (T.take i).length * elS.k = i * 4 := by show 0 + (T.take i).length * 4 = _; rw [List.length_take]; omega
  rw [e1] at h2
  exact h2
theorem enters_jtake : ∀ args w, (callFunc 56 args).run Tryz.prog w = .ok (.enter 56 args) w := enters_of Tryz.func56 (by kernel_rfl) rfl
set_option maxHeartbeats 16000000 in
theorem pairs_any {w : World} {bo : Nat} {va vb : Value} {A Bl : List St} (P : Nat → Prop) (hva : Own elS w va A) (hvb : Own elS w vb Bl) (hd : ∀ k, va.ownBlock = some k → vb.ownBlock ≠ some k) (hb : Bx1 w bo (.slice none 0 0)) (hna : va.ownBlock ≠ some bo) (hnb : vb.ownBlock ≠ some bo)
    (hP : ∀ k, P k → k < w.heap.size ∧ k ≠ bo ∧ va.ownBlock ≠ some k ∧ vb.ownBlock ≠ some k) (hra : ∀ s ∈ A, Rok w P s.p s.c s.row) (hrb : ∀ s ∈ Bl, Rok w P s.p s.c s.row) (hga : ∀ s ∈ A, GoodS 1099511627776 s) (hgb : ∀ s ∈ Bl, GoodS 4194304 s)
    (hrl : ∀ x ∈ A, ∀ y ∈ Bl, x.row.length + y.row.length ≤ 1099511627776) (hl : A.length * Bl.length ≤ 1099511627776) (hla : A.length ≤ 1099511627776) (hlb : Bl.length ≤ 1099511627776) :
    Calls Tryz.prog 54 #[va, vb, .func (.func 56) #[] #[.pointer (some ⟨bo, 0, none⟩)]] w fun e w' => e = .returned (.tuple #[]) ∧ ∃ v S TA TB, TA.Perm A ∧ TB.Perm Bl ∧ JS w.heap.size bo w' v S ∧ (∃ i j, PT TA TB i j S ∧ (TA.length ≤ i ∨ TB.length ≤ j)) ∧ Fr w w' (fun k => k = bo ∨ va.ownBlock = some k ∨ vb.ownBlock = some k) := by
  obtain ⟨pa, ca, eva, hca, hna0, _, hsa⟩ := hva.shape
  obtain ⟨pb, cb, evb, hcb, hnb0, _, hsb⟩ := hvb.shape
  obtain ⟨na, hna1⟩ : ∃ na, na = A.length := ⟨_, rfl⟩
  obtain ⟨nb, hnb1⟩ : ∃ nb, nb = Bl.length := ⟨_, rfl⟩
  rw [← hna1] at eva hca hla hl
  rw [← hnb1] at evb hcb hlb hl
  obtain ⟨w0, hw0⟩ : ∃ w0, w0 = w.alloc (.cells #[va, vb] 73) := ⟨_, rfl⟩
  obtain ⟨gl, hgl⟩ : ∃ gl, gl = w.heap.size := ⟨_, rfl⟩
  have f0 : Fr w w0 (fun _ => False) := by rw [hw0]; exact Fr.alloc _ _ _
  have HLT := hide (show Two w0 gl va vb by rw [hw0, hgl]; exact two_of (heap_alloc_new w _))
  have HVA := hide (hva.fr f0 (fun _ _ h => h))
  have HVB := hide (hvb.fr f0 (fun _ _ h => h))
  have HVAL := hide (show ∀ k, va.ownBlock = some k → k < w.heap.size from fun k hk => hva.lt hk)
  have HVBL := hide (show ∀ k, vb.ownBlock = some k → k < w.heap.size from fun k hk => hvb.lt hk)
  have HD := hide hd
  have HB := hide hb
  have HNAB := hide hna
  have HNBB := hide hnb
  have HP := hide hP
  have HRA0 := hide hra
  have HRB0 := hide hrb
  have HGA0 := hide hga
  have HGB0 := hide hgb
  have HRL0 := hide hrl
  have HLL := hide hl
  have HSA0 := hide hsa
  have HSB0 := hide hsb
  have HNA0 := hide hna0
  have HNB0 := hide hnb0
  have HNA1 := hide hna1
  have HNB1 := hide hnb1
  have HF0 := hide f0
  have HBW := hide (show bo < w.heap.size from hb.lt)
  have HGL := hide hgl
  have EVA := hide eva
  have EVB := hide evb
  have HW0 := hide hw0
  have lt0 := HLT.out.1
  have lt1 := HLT.out.2.1
  rw [eva] at lt0
  rw [evb] at lt1
  rw [eva, evb] at hw0
  rw [eva] at HW0
  rw [evb] at HW0
  obtain ⟨PO, hPO⟩ : ∃ PO : Ending → World → Prop, PO = fun e w' => e = .returned (.tuple #[]) ∧ ∃ v S TA TB, TA.Perm A ∧ TB.Perm Bl ∧ JS w.heap.size bo w' v S ∧ (∃ i j, PT TA TB i j S ∧ (TA.length ≤ i ∨ TB.length ≤ j)) ∧ Fr w w' (fun k => k = bo ∨ va.ownBlock = some k ∨ vb.ownBlock = some k) := ⟨_, rfl⟩
  have HPO := hide hPO
  rw [← hPO, eva, evb]
  clear hva hvb hd hb hna hnb hP hra hrb hga hgb hrl hl hsa hsb hna0 hnb0 hna1 hnb1 f0 hgl eva evb hw0 hPO lt0 lt1
  go_enter Tryz.func54, Tryz.ntmps54
  go_wp2_with fail
  rw [← HW0.out, ← HGL.out]
  clear HW0
  go_loopw [16] (fun iv wr => ∃ (k : Nat) (TA TB : List St), k ≤ 2 ∧ iv = .int .i64 (k : Int) ∧ TA.Perm A ∧ TB.Perm Bl ∧ Own elS wr va TA ∧ Own elS wr vb TB ∧ (1 ≤ k → Srt TA) ∧ (2 ≤ k → Srt TB) ∧ Fr w0 wr (fun q => va.ownBlock = some q ∨ vb.ownBlock = some q)) (fun iv _ => 2 - (intOf iv).toNat)
  case atStart => exact ⟨0, A, Bl, by omega, rfl, List.Perm.refl _, List.Perm.refl _, HVA.out, HVB.out, by omega, by omega, Fr.refl _ _⟩
  case round =>
    rename World => w5
    obtain ⟨k, TA, TB, hk, rfl, hpa, hpb, hoa, hob, hsa, hsb, hf⟩ := hrel
    have HPA := hide hpa
    have HPB := hide hpb
    have HOA := hide hoa
    have HOB := hide hob
    have HSA := hide hsa
    have HSB := hide hsb
    have HF5 := hide hf
    have hgne : ¬ (va.ownBlock = some gl ∨ vb.ownBlock = some gl) := by
      rintro (h | h)
      · have := HVAL.out _ h; have := HGL.out; omega
      · have := HVBL.out _ h; have := HGL.out; omega
    have hlt5 := HLT.out.fr hf hgne
    have lt0 := hlt5.1
    have lt1 := hlt5.2.1
    rw [EVA.out] at lt0
    rw [EVB.out] at lt1
    clear hpa hpb hoa hob hsa hsb hf hgne hlt5
    by_cases hk0 : k = 0
    · subst hk0
      have HSRT := hide (sortB_any va TA w5 HOA.out (by rw [HPA.out.length_eq]; have := HNA1.out; omega))
      rw [EVA.out] at HSRT
      go_wp2_with fail
      refine HSRT.out.mono ?_
      rintro e w6 ⟨rfl, T, hp, hs, ho, hf6⟩
      rw [← EVA.out] at ho hf6
      have HP6 := hide (hp.trans HPA.out)
      have HS6 := hide hs
      have HO6 := hide ho
      have HB6 := hide (HOB.out.fr hf6 (fun q hq h => HD.out q h hq))
      have HF6 := hide ((HF5.out.trans hf6).mono (Y := fun q => va.ownBlock = some q ∨ vb.ownBlock = some q) (by rintro q _ (h | h); exact h; exact .inl h))
      clear hp hs ho hf6 HSRT lt0 lt1
      go_wp2
      go_roundw
      case rel => exact ⟨1, T, TB, by omega, by go_num, HP6.out, HPB.out, HO6.out, HB6.out, fun _ => HS6.out, by omega, HF6.out⟩
      case measure => simp [intOf]
    · by_cases hk1 : k = 1
      · subst hk1
        have HSRT := hide (sortB_any vb TB w5 HOB.out (by rw [HPB.out.length_eq]; have := HNB1.out; omega))
        rw [EVB.out] at HSRT
        go_wp2_with fail
        refine HSRT.out.mono ?_
        rintro e w6 ⟨rfl, T, hp, hs, ho, hf6⟩
        rw [← EVB.out] at ho hf6
        have HP6 := hide (hp.trans HPB.out)
        have HS6 := hide hs
        have HO6 := hide ho
        have HA6 := hide (HOA.out.fr hf6 (fun q hq h => HD.out q hq h))
        have HF6 := hide ((HF5.out.trans hf6).mono (Y := fun q => va.ownBlock = some q ∨ vb.ownBlock = some q) (by rintro q _ (h | h); exact h; exact .inr h))
        clear hp hs ho hf6 HSRT lt0 lt1
        go_wp2
        go_roundw
        case rel => exact ⟨2, TA, T, by omega, by go_num, HPA.out, HP6.out, HA6.out, HO6.out, fun _ => HSA.out (by omega), fun _ => HS6.out, HF6.out⟩
        case measure => simp [intOf]
      · obtain rfl : k = 2 := by omega
        have HSA := hide (HSA.out (by omega))
        have HSB := hide (HSB.out (by omega))
        have HF1 := hide ((HF0.out.trans HF5.out).mono (Y := fun q => va.ownBlock = some q ∨ vb.ownBlock = some q) (by rintro q _ (h | h); exact h.elim; exact h))
        have HB1 := hide (HB.out.fr HF1.out (by rintro (h | h); exact HNAB.out h; exact HNBB.out h))
        clear lt0 lt1 HLT HVA HVB HGL HF5 HF0 hk hk0 hk1
        have HNA := hide (show TA.length = na by rw [HPA.out.length_eq]; exact HNA1.out.symm)
        have HNB := hide (show TB.length = nb by rw [HPB.out.length_eq]; exact HNB1.out.symm)
        have HGA := hide (show ∀ s ∈ TA, GoodS 1099511627776 s from fun s hs => HGA0.out s (HPA.out.mem_iff.1 hs))
        have HGB := hide (show ∀ s ∈ TB, GoodS 4194304 s from fun s hs => HGB0.out s (HPB.out.mem_iff.1 hs))
        have HRL := hide (show ∀ x ∈ TA, ∀ y ∈ TB, x.row.length + y.row.length ≤ 1099511627776 from fun x hx y hy => HRL0.out x (HPA.out.mem_iff.1 hx) y (HPB.out.mem_iff.1 hy))
        have HRKA : Hid (∀ U, Fr w5 U (fun q => q = bo ∨ w.heap.size ≤ q) → ∀ s ∈ TA, Rok U P s.p s.c s.row) := hide (fun U hU s hs => ((HRA0.out s (HPA.out.mem_iff.1 hs)).fr HF1.out (fun k _ hk h => by rcases h with h | h; exact (HP.out k hk).2.2.1 h; exact (HP.out k hk).2.2.2 h)).fr hU (fun k _ hk h => by have := HP.out k hk; rcases h with h | h; exact this.2.1 h; omega))
        have HRKB : Hid (∀ U, Fr w5 U (fun q => q = bo ∨ w.heap.size ≤ q) → ∀ s ∈ TB, Rok U P s.p s.c s.row) := hide (fun U hU s hs => ((HRB0.out s (HPB.out.mem_iff.1 hs)).fr HF1.out (fun k _ hk h => by rcases h with h | h; exact (HP.out k hk).2.2.1 h; exact (HP.out k hk).2.2.2 h)).fr hU (fun k _ hk h => by have := HP.out k hk; rcases h with h | h; exact this.2.1 h; omega))
        have HXA := hide (show ∀ g, va.ownBlock = some g → ¬ (g = bo ∨ w.heap.size ≤ g) from fun g hg h => by rcases h with h | h; exact HNAB.out (by rw [hg, h]); have := HVAL.out g hg; omega)
        have HXBB := hide (show ∀ g, vb.ownBlock = some g → ¬ (g = bo ∨ w.heap.size ≤ g) from fun g hg h => by rcases h with h | h; exact HNBB.out (by rw [hg, h]); have := HVBL.out g hg; omega)
        clear HRA0 HRB0 HGA0 HGB0 HRL0
        go_wp2_with fail
        go_loopw [0, 1] (fun v0 v1 wr => ∃ (i j : Nat) (av bv : Option Addr) (cca ccb : Nat) (u : Value) (S : List St), v0 = .slice av (na - i) cca ∧ v1 = .slice bv (nb - j) ccb ∧ i ≤ na ∧ j ≤ nb ∧ na - i ≤ cca ∧ nb - j ≤ ccb ∧ (i < na → ∃ g, va.ownBlock = some g ∧ av = some ⟨g, i * 4, none⟩) ∧ (j < nb → ∃ g, vb.ownBlock = some g ∧ bv = some ⟨g, j * 4, none⟩) ∧ JS w.heap.size bo wr u S ∧ PT TA TB i j S ∧ Fr w5 wr (fun q => q = bo ∨ w.heap.size ≤ q)) (fun v0 v1 _ => lenV v0 + lenV v1)
        case atStart =>
          refine ⟨0, 0, pa, pb, ca, cb, .slice none 0 0, [], rfl, rfl, by omega, by omega, hca, hcb, fun h0 => ?_, fun h0 => ?_, ⟨HB1.out, Own.nil elS _, by simp, by intro k hk; cases hk⟩, PT.start TA TB, Fr.refl _ _⟩
          · cases ha : pa with
            | none => have := (HNA0.out ha).2; have := HNA1.out; simp_all
            | some z =>
              obtain ⟨g, hg⟩ := HSA0.out z ha
              exact ⟨g, by rw [EVA.out, ha, hg]; rfl, by rw [hg, Nat.zero_mul]⟩
          · cases hbq : pb with
            | none => have := (HNB0.out hbq).2; have := HNB1.out; simp_all
            | some z =>
              obtain ⟨g, hg⟩ := HSB0.out z hbq
              exact ⟨g, by rw [EVB.out, hbq, hg]; rfl, by rw [hg, Nat.zero_mul]⟩
        case round =>
          rename World => V0
          obtain ⟨i, j, av, bv, cca, ccb, u, S, rfl, rfl, hi, hj, hcca, hccb, hav, hbv, hjs, hpt, hf⟩ := hrel
          have HJS0 := hide hjs
          have HPT := hide hpt
          have HF00 := hide hf
          clear hjs hpt hf
          by_cases hlti : i < na
          · by_cases hltj : j < nb
            · obtain ⟨ga, hga, rfl⟩ := hav hlti
              obtain ⟨gb, hgb, rfl⟩ := hbv hltj
              have HRA : Hid (∀ U, Fr w5 U (fun q => q = bo ∨ w.heap.size ≤ q) → ∀ k z, TA[k]? = some z → U.cell? ⟨ga, k * 4, none⟩ = some (.int .i64 z.lo) ∧ U.cell? ⟨ga, k * 4 + 1, none⟩ = some (.int .i64 z.hi) ∧ U.cell? ⟨ga, k * 4 + 2, none⟩ = some (.slice z.p z.row.length z.c) ∧ U.cell? ⟨ga, k * 4 + 3, none⟩ = some (.int .i64 z.n)) := hide (fun U hU k z hz => by
                obtain ⟨g2, o2, e2, _, d0, d1, d2, d3⟩ := rowS_at (own_rowat HOA.out hga hU (HXA.out ga hga)) hz
                injection e2 with e2
                injection e2 with e2 e3
                subst e2 e3
                simp only [Nat.zero_add] at d0 d1 d2 d3
                exact ⟨d0, d1, d2, d3⟩)
              have HRB : Hid (∀ U, Fr w5 U (fun q => q = bo ∨ w.heap.size ≤ q) → ∀ k z, TB[k]? = some z → U.cell? ⟨gb, k * 4, none⟩ = some (.int .i64 z.lo) ∧ U.cell? ⟨gb, k * 4 + 1, none⟩ = some (.int .i64 z.hi) ∧ U.cell? ⟨gb, k * 4 + 2, none⟩ = some (.slice z.p z.row.length z.c) ∧ U.cell? ⟨gb, k * 4 + 3, none⟩ = some (.int .i64 z.n)) := hide (fun U hU k z hz => by
                obtain ⟨g2, o2, e2, _, d0, d1, d2, d3⟩ := rowS_at (own_rowat HOB.out hgb hU (HXBB.out gb hgb)) hz
                injection e2 with e2
                injection e2 with e2 e3
                subst e2 e3
                simp only [Nat.zero_add] at d0 d1 d2 d3
                exact ⟨d0, d1, d2, d3⟩)
              have HGAO := hide hga
              have HGBO := hide hgb
              obtain ⟨x, hx⟩ : ∃ x, TA[i]? = some x := ⟨_, List.getElem?_eq_getElem (by rw [HNA.out]; exact hlti)⟩
              obtain ⟨y, hy⟩ : ∃ y, TB[j]? = some y := ⟨_, List.getElem?_eq_getElem (by rw [HNB.out]; exact hltj)⟩
              have HX := hide hx
              have HY := hide hy
              have HCX := hide (fun U (hU : Fr w5 U (fun q => q = bo ∨ w.heap.size ≤ q)) => HRA.out U hU i x hx)
              have HCY := hide (fun U (hU : Fr w5 U (fun q => q = bo ∨ w.heap.size ≤ q)) => HRB.out U hU j y hy)
              have hposa : (0 : Int) < ((na - i : Nat) : Int) := by omega
              have hposb : (0 : Int) < ((nb - j : Nat) : Int) := by omega
              clear hx hy hav hbv hga hgb
              go_wp2_with fail
              refine wp_region_K (fun z => decide (z < 11)) (fun U : World => Fr (V0.drew) U (fun _ => False)) (by kernel_rfl) ?_
              have hS : (fun U : World => Fr (V0.drew) U (fun _ => False)) V0.drew := Fr.refl _ _
              have D1 := Fr.drew V0 (fun _ => False)
              have HF := hide ((HF00.out.trans D1).mono (Y := (fun q => q = bo ∨ w.heap.size ≤ q)) (by rintro q _ (h | h); exact h; exact h.elim))
              have HJS := hide (HJS0.out.fr D1)
              clear D1 HF00 HJS0
              have HC6 : Hid (∀ U, Fr (V0.drew) U (fun _ => False) → _) := hide (fun U hU => And.intro (HCX.out U ((HF.out.trans hU).mono (Y := (fun q => q = bo ∨ w.heap.size ≤ q)) (by rintro q _ (h | h); exact h; exact h.elim))) (HCY.out U ((HF.out.trans hU).mono (Y := (fun q => q = bo ∨ w.heap.size ≤ q)) (by rintro q _ (h | h); exact h; exact h.elim))))
              generalize V0.drew = V at *
              refine wpAnyK_takeTo 0 (some 31) ((.slice (some ⟨ga, i * 4, none⟩) (na - i) cca)) [1, 2, 3, 4, 10] rfl rfl (by kernel_rfl) (by kernel_rfl) (by kernel_rfl) (by kernel_rfl) (fun _ _ _ h => h) hS (Or.inl ⟨rfl, fun w1 hw1 => by go_simp⟩) ?_
              simp only [Act.put, List.setIfInBounds_toArray, List.set_cons_zero, List.set_cons_succ]
              refine wpAnyK_takeTo 1 (some 32) (.pointer (some ⟨ga, i * 4, none⟩)) [2, 3, 4, 10] rfl rfl (by kernel_rfl) (by kernel_rfl) (by kernel_rfl) (by kernel_rfl) (fun _ _ _ h => h) hS (Or.inl ⟨rfl, fun w1 hw1 => by go_simp; first | done | omega⟩) ?_
              simp only [Act.put, List.setIfInBounds_toArray, List.set_cons_zero, List.set_cons_succ]
              refine wpAnyK_takeTo 2 (some 33) (.pointer (some ⟨ga, i * 4, none⟩)) [3, 4, 10] rfl rfl (by kernel_rfl) (by kernel_rfl) (by kernel_rfl) (by kernel_rfl) (fun _ _ _ h => h) hS (Or.inl ⟨rfl, fun w1 hw1 => by go_simp⟩) ?_
              simp only [Act.put, List.setIfInBounds_toArray, List.set_cons_zero, List.set_cons_succ]
              refine wpAnyK_takeTo 3 (some 34) (.pointer (some ⟨ga, i * 4, none⟩)) [4, 10] rfl rfl (by kernel_rfl) (by kernel_rfl) (by kernel_rfl) (by kernel_rfl) (fun _ _ _ h => h) hS (Or.inl ⟨rfl, fun w1 hw1 => by go_simp⟩) ?_
              simp only [Act.put, List.setIfInBounds_toArray, List.set_cons_zero, List.set_cons_succ]
              refine wpAnyK_takeTo 4 (some 35) (.int .i64 x.lo) [10] rfl rfl (by kernel_rfl) (by kernel_rfl) (by kernel_rfl) (by kernel_rfl) (fun _ _ _ h => h) hS (Or.inl ⟨rfl, fun w1 hw1 => by obtain ⟨⟨q0, q1, q2, q3⟩, q4, q5, q6, q7⟩ := HC6.out _ hw1; go_simp⟩) ?_
              simp only [Act.put, List.setIfInBounds_toArray, List.set_cons_zero, List.set_cons_succ]
              refine wpAnyK_takeTo 5 (some 36) ((.slice (some ⟨gb, j * 4, none⟩) (nb - j) ccb)) [6, 7, 8, 9, 10] rfl rfl (by kernel_rfl) (by kernel_rfl) (by kernel_rfl) (by kernel_rfl) (fun _ _ _ h => h) hS (Or.inl ⟨rfl, fun w1 hw1 => by go_simp⟩) ?_
              simp only [Act.put, List.setIfInBounds_toArray, List.set_cons_zero, List.set_cons_succ]
              refine wpAnyK_takeTo 6 (some 37) (.pointer (some ⟨gb, j * 4, none⟩)) [7, 8, 9, 10] rfl rfl (by kernel_rfl) (by kernel_rfl) (by kernel_rfl) (by kernel_rfl) (fun _ _ _ h => h) hS (Or.inl ⟨rfl, fun w1 hw1 => by go_simp; first | done | omega⟩) ?_
              simp only [Act.put, List.setIfInBounds_toArray, List.set_cons_zero, List.set_cons_succ]
              refine wpAnyK_takeTo 7 (some 38) (.pointer (some ⟨gb, j * 4, none⟩)) [8, 9, 10] rfl rfl (by kernel_rfl) (by kernel_rfl) (by kernel_rfl) (by kernel_rfl) (fun _ _ _ h => h) hS (Or.inl ⟨rfl, fun w1 hw1 => by go_simp⟩) ?_
              simp only [Act.put, List.setIfInBounds_toArray, List.set_cons_zero, List.set_cons_succ]
              refine wpAnyK_takeTo 8 (some 39) (.pointer (some ⟨gb, j * 4, none⟩)) [9, 10] rfl rfl (by kernel_rfl) (by kernel_rfl) (by kernel_rfl) (by kernel_rfl) (fun _ _ _ h => h) hS (Or.inl ⟨rfl, fun w1 hw1 => by go_simp⟩) ?_
              simp only [Act.put, List.setIfInBounds_toArray, List.set_cons_zero, List.set_cons_succ]
              refine wpAnyK_takeTo 9 (some 40) (.int .i64 y.lo) [10] rfl rfl (by kernel_rfl) (by kernel_rfl) (by kernel_rfl) (by kernel_rfl) (fun _ _ _ h => h) hS (Or.inl ⟨rfl, fun w1 hw1 => by obtain ⟨⟨q0, q1, q2, q3⟩, q4, q5, q6, q7⟩ := HC6.out _ hw1; go_simp⟩) ?_
              simp only [Act.put, List.setIfInBounds_toArray, List.set_cons_zero, List.set_cons_succ]
              have HDLB := hide (show (TB.drop j).length = nb - j by rw [List.length_drop, HNB.out])
              have HDLA := hide (show (TA.drop i).length = na - i by rw [List.length_drop, HNA.out])
              by_cases hle : x.lo ≤ y.lo
              · have HLE := hide hle
                refine wpAnyK_takeTo 10 (some 41) (.bool true) [] rfl rfl (by kernel_rfl) (by kernel_rfl) (by kernel_rfl) (by kernel_rfl) (fun _ _ _ h => h) hS (Or.inl ⟨rfl, fun w1 hw1 => by go_simp; first | done | omega⟩) ?_
                simp only [Act.put, List.setIfInBounds_toArray, List.set_cons_zero, List.set_cons_succ]
                refine wpAnyK_done (by kernel_rfl) ?_ _
                obtain ⟨q0, q1, q2, q3⟩ := HCX.out V HF.out
                have HBG := begun_any (c := ccb) x.hi (row_drop j (own_rowat HOB.out HGBO.out HF.out (HXBB.out gb HGBO.out)) (by rw [HNB.out]; omega)) (by rw [HDLB.out]; omega) (by rw [HDLB.out]; omega)
                rw [HDLB.out] at HBG
                have HBG := hide HBG
                have HKL := hide (show ∀ K, K ≤ nb - j → K ≤ 1099511627776 from fun K h => by omega)
                clear hS HC6 hle
                go_wp2_with fail
                clear q0 q1 q2 q3
                refine HBG.out.mono ?_
                rintro e W8 ⟨K, hK, rfl, hlo, hge, rfl⟩
                have HLO := hide hlo
                have HGE := hide hge
                clear HBG hlo hge
                go_wp2_with fail
                go_loopw [50] (fun i' wr => ∃ (k : Nat) (u' : Value) (Sk : List St), k ≤ K ∧ i' = .int .i64 (k : Int) ∧ JS w.heap.size bo wr u' Sk ∧ PI TA TB S (fun r t => J [x] ((TB.drop j).take k) r t) k (x.n * absS ((TB.drop j).take k)) Sk ∧ Fr w5 wr (fun q => q = bo ∨ w.heap.size ≤ q)) (fun i' _ => K - (intOf i').toNat)
                case atStart => exact ⟨0, u, S, by omega, rfl, HJS.out, by simpa using PI.start x HPT.out.prs, HF.out⟩
                case round =>
                  rename World => V2
                  obtain ⟨k, u', Sk, hk, rfl, hjs, hpi, hf2⟩ := hrel
                  have HJS2 := hide hjs
                  have HPI := hide hpi
                  have HF2 := hide hf2
                  clear hjs hpi hf2
                  by_cases hlt : k < K
                  · obtain ⟨z, hz⟩ : ∃ z, (TB.drop j)[k]? = some z := ⟨_, List.getElem?_eq_getElem (by rw [HDLB.out]; omega)⟩
                    have HZ := hide hz
                    have hz2 : TB[j + k]? = some z := by rw [List.getElem?_drop] at hz; exact hz
                    have hzm := List.mem_of_getElem? hz2
                    have HZM := hide hzm
                    have HCZ := HRB.out V2 HF2.out (j + k) z hz2
                    obtain ⟨d0, d1, d2, d3⟩ := HCZ
                    have eoff : (j + k) * 4 = j * 4 + k * 4 := by omega
                    rw [eoff] at d0 d1 d2 d3
                    have HZLO := hide (HLO.out z (by
                      have : z ∈ ((TB.drop j).take (k + 1)) := by rw [take_snoc hz]; simp
                      have e1 : (TB.drop j).take (k + 1) = ((TB.drop j).take K).take (k + 1) := by rw [List.take_take]; congr 1; omega
                      rw [e1] at this
                      exact List.mem_of_mem_take this))
                    have HZA := hide (lo_after HSB.out HY.out hz2 (by omega))
                    obtain ⟨V3, hV3⟩ : ∃ V3, V3 = V2.alloc (.cells #[.int .i64 z.lo, .int .i64 z.hi, .slice z.p z.row.length z.c, .int .i64 z.n] 79) := ⟨_, rfl⟩
                    obtain ⟨gz, hgz⟩ : ∃ gz, gz = V2.heap.size := ⟨_, rfl⟩
                    have f3 : Fr V2 V3 (fun _ => False) := by rw [hV3]; exact Fr.alloc _ _ _
                    have HT3 := hide (show Four V3 gz (.int .i64 z.lo) (.int .i64 z.hi) (.slice z.p z.row.length z.c) (.int .i64 z.n) by rw [hV3, hgz]; exact four_of (heap_alloc_new V2 _))
                    have HF3 := hide ((HF2.out.trans f3).mono (Y := (fun q => q = bo ∨ w.heap.size ≤ q)) (by rintro q _ (h | h); exact h; exact h.elim))
                    have HJS3 := hide (HJS2.out.fr f3)
                    have hkz : (k : Int) < (K : Int) := by omega
                    have hk0 : (0 : Int) ≤ (k : Int) := by omega
                    have HV3 := hide hV3
                    have HGZ := hide hgz
                    clear hz hz2 hzm hV3 hgz f3 HF2
                    go_wp2_with fail
                    rw [← HV3.out, ← HGZ.out]
                    clear d0 d1 d2 d3 HV3
                    refine wp_region_K (fun z => decide (z < 5)) (fun U : World => Fr (V3.drew) U (fun _ => False)) (by kernel_rfl) ?_
                    have hS : (fun U : World => Fr (V3.drew) U (fun _ => False)) V3.drew := Fr.refl _ _
                    have D1 := Fr.drew V3 (fun _ => False)
                    have HF4 := hide ((HF3.out.trans D1).mono (Y := (fun q => q = bo ∨ w.heap.size ≤ q)) (by rintro q _ (h | h); exact h; exact h.elim))
                    have HT4 := hide (HT3.out.fr D1 (fun h => h))
                    have HJS4 := hide (HJS3.out.fr D1)
                    have HCF : Hid (∀ U, Fr (V3.drew) U (fun _ => False) → _) := hide (fun U hU => HCX.out U ((HF4.out.trans hU).mono (Y := (fun q => q = bo ∨ w.heap.size ≤ q)) (by rintro q _ (h | h); exact h; exact h.elim)))
                    clear D1 HT3 HJS3 HF3
                    generalize V3.drew = V4 at *
                    refine wpAnyK_takeTo 0 (some 54) (.func (.func 56) #[] #[.pointer (some ⟨bo, 0, none⟩)]) [5] rfl rfl (by kernel_rfl) (by kernel_rfl) (by kernel_rfl) (by kernel_rfl) (fun _ _ _ h => h) hS (Or.inl ⟨rfl, fun w1 hw1 => by go_simp⟩) ?_
                    simp only [Act.put, List.setIfInBounds_toArray, List.set_cons_zero, List.set_cons_succ]
                    refine wpAnyK_takeTo 1 (some 55) ((.slice (some ⟨ga, i * 4, none⟩) (na - i) cca)) [2, 3, 5] rfl rfl (by kernel_rfl) (by kernel_rfl) (by kernel_rfl) (by kernel_rfl) (fun _ _ _ h => h) hS (Or.inl ⟨rfl, fun w1 hw1 => by go_simp⟩) ?_
                    simp only [Act.put, List.setIfInBounds_toArray, List.set_cons_zero, List.set_cons_succ]
                    refine wpAnyK_takeTo 2 (some 56) (.pointer (some ⟨ga, i * 4, none⟩)) [3, 5] rfl rfl (by kernel_rfl) (by kernel_rfl) (by kernel_rfl) (by kernel_rfl) (fun _ _ _ h => h) hS (Or.inl ⟨rfl, fun w1 hw1 => by go_simp; first | done | omega⟩) ?_
                    simp only [Act.put, List.setIfInBounds_toArray, List.set_cons_zero, List.set_cons_succ]
                    refine wpAnyK_takeTo 3 (some 57) (.agg #[.int .i64 x.lo, .int .i64 x.hi, .slice x.p x.row.length x.c, .int .i64 x.n]) [5] rfl rfl (by kernel_rfl) (by kernel_rfl) (by kernel_rfl) (by kernel_rfl) (fun _ _ _ h => h) hS (Or.inl ⟨rfl, fun w1 hw1 => by obtain ⟨q0, q1, q2, q3⟩ := HCF.out _ hw1; go_simp⟩) ?_
                    simp only [Act.put, List.setIfInBounds_toArray, List.set_cons_zero, List.set_cons_succ]
                    refine wpAnyK_takeTo 4 (some 58) (.agg #[.int .i64 z.lo, .int .i64 z.hi, .slice z.p z.row.length z.c, .int .i64 z.n]) [5] rfl rfl (by kernel_rfl) (by kernel_rfl) (by kernel_rfl) (by kernel_rfl) (fun _ _ _ h => h) hS (Or.inl ⟨rfl, fun w1 hw1 => by have q0 := HT4.out.fr hw1 (fun h => h); obtain ⟨q1, q2, q3, q4, _⟩ := q0; go_simp⟩) ?_
                    simp only [Act.put, List.setIfInBounds_toArray, List.set_cons_zero, List.set_cons_succ]
                    refine wpAnyK_one (i := 5) (by kernel_rfl) rfl rfl ?_
                    have HXG := HGA.out x (List.mem_of_getElem? HX.out)
                    have HYG := HGB.out z HZM.out
                    have hmeet : max x.lo z.lo < min x.hi z.hi := by
                      have h1 := HZLO.out
                      have h2 := HZA.out
                      have h3 := HXG.2.2
                      have h4 := HYG.2.2
                      have h5 := HLE.out
                      omega
                    have HCL := hide (jtake_any HJS4.out.b HJS4.out.o (fun e => by have := HJS4.out.n _ e; have := HBW.out; omega) (HRKA.out V4 HF4.out x (List.mem_of_getElem? HX.out)) (HRKB.out V4 HF4.out z HZM.out) (by have h1 := HPI.out.len; have h2 := HPT.out.room (by have := HNA.out; omega) (by have := HNB.out; omega) (k := k) (.inl (by have := HNB.out; omega)); have h3 := HLL.out; rw [HNA.out, HNB.out] at h2; omega) (over_meet HXG.2.2 HYG.2.2 hmeet) (HRL.out x (List.mem_of_getElem? HX.out) z HZM.out) ⟨HXG.1, HXG.2.1⟩ ⟨HYG.1, HYG.2.1⟩)
                    have HMEET := hide hmeet
                    have HXN := hide HXG.1
                    have HYN := hide HYG.1
                    clear hmeet HXG HYG
                    obtain ⟨AR, hAR⟩ : ∃ AR : Array Value, AR = #[.agg #[.int .i64 x.lo, .int .i64 x.hi, .slice x.p x.row.length x.c, .int .i64 x.n], .agg #[.int .i64 z.lo, .int .i64 z.hi, .slice z.p z.row.length z.c, .int .i64 z.n], .pointer (some ⟨bo, 0, none⟩)] := ⟨_, rfl⟩
                    rw [← hAR] at HCL
                    refine wp_call_to (some 59) rfl 56 AR ?_ HCL.out ?_
                    · rw [hAR]
                      go_simp
                    rintro e W9 ⟨rfl, u9, p9, c9, hb9, ho9, hr9, hf9, hfr9⟩
                    refine ⟨_, rfl, fun h => absurd h (by decide), ?_⟩
                    simp only [Act.put, List.setIfInBounds_toArray, List.set_cons_zero, List.set_cons_succ]
                    have hw4 : w.heap.size ≤ V4.heap.size := by have := HF1.out.size; have := HF4.out.size; omega
                    have HJS9 := hide (JS.take HJS4.out HBW.out hw4 hb9 ho9 hr9 hf9 hfr9)
                    have HPI9 := hide (PI.next HPI.out HZ.out (List.mem_of_getElem? HX.out) HZM.out HXN.out HYN.out HMEET.out p9 c9)
                    have HF9 := hide ((HF4.out.trans hf9).mono (Y := (fun q => q = bo ∨ w.heap.size ≤ q)) (by
                      rintro q hq (h | h)
                      · exact h
                      · rcases h with h | h
                        · exact .inl h
                        · exact .inr (HJS4.out.n q h)))
                    refine wpAnyK_done (by kernel_rfl) ?_ _
                    clear hS HCL hAR hb9 ho9 hr9 hf9 hfr9 HJS4 HF4 HT4 HCF hw4
                    go_wp2
                    go_roundw
                    case rel => exact ⟨k + 1, u9, _, by omega, by go_num, HJS9.out, HPI9.out, HF9.out⟩
                    case measure => simp [intOf]; omega
                  · obtain rfl : k = K := by omega
                    have HPT2 := hide (PT.left HPT.out HX.out (HGA.out x (List.mem_of_getElem? HX.out)).1 (by have := HNB.out; omega) HPI.out (lo_rest HSB.out HGE.out))
                    have hcc2 : (1 : Int) ≤ ((na - i : Nat) : Int) := by omega
                    clear HPI
                    go_wp2
                    all_goals refine ⟨⟨i + 1, j, _, _, _, ⟨rfl, by omega, rfl⟩, _, ⟨rfl, rfl, rfl⟩, by omega, by omega, by omega, by omega, fun h => (by first | (exfalso; omega) | exact ⟨ga, HGAO.out, by rw [show (i + 1) * 4 = i * 4 + 4 by omega]⟩), fun h => ⟨gb, HGBO.out, rfl⟩, u', Sk, HJS2.out, HPT2.out, HF2.out⟩, by show na - i - 1 < na - i; omega⟩
              · have HLE := hide (show y.lo ≤ x.lo by omega)
                refine wpAnyK_takeTo 10 (some 41) (.bool false) [] rfl rfl (by kernel_rfl) (by kernel_rfl) (by kernel_rfl) (by kernel_rfl) (fun _ _ _ h => h) hS (Or.inl ⟨rfl, fun w1 hw1 => by go_simp; first | done | omega⟩) ?_
                simp only [Act.put, List.setIfInBounds_toArray, List.set_cons_zero, List.set_cons_succ]
                refine wpAnyK_done (by kernel_rfl) ?_ _
                obtain ⟨q0, q1, q2, q3⟩ := HCY.out V HF.out
                have HBG := begun_any (c := cca) y.hi (row_drop i (own_rowat HOA.out HGAO.out HF.out (HXA.out ga HGAO.out)) (by rw [HNA.out]; omega)) (by rw [HDLA.out]; omega) (by rw [HDLA.out]; omega)
                rw [HDLA.out] at HBG
                have HBG := hide HBG
                have HKL := hide (show ∀ K, K ≤ na - i → K ≤ 1099511627776 from fun K h => by omega)
                clear hS HC6 hle
                go_wp2_with fail
                clear q0 q1 q2 q3
                refine HBG.out.mono ?_
                rintro e W8 ⟨K, hK, rfl, hlo, hge, rfl⟩
                have HLO := hide hlo
                have HGE := hide hge
                clear HBG hlo hge
                go_wp2_with fail
                go_loopw [71] (fun i' wr => ∃ (k : Nat) (u' : Value) (Sk : List St), k ≤ K ∧ i' = .int .i64 (k : Int) ∧ JS w.heap.size bo wr u' Sk ∧ PI TA TB S (fun r t => J ((TA.drop i).take k) [y] r t) k (absS ((TA.drop i).take k) * y.n) Sk ∧ Fr w5 wr (fun q => q = bo ∨ w.heap.size ≤ q)) (fun i' _ => K - (intOf i').toNat)
                case atStart => exact ⟨0, u, S, by omega, rfl, HJS.out, by simpa using PI.start' y HPT.out.prs, HF.out⟩
                case round =>
                  rename World => V2
                  obtain ⟨k, u', Sk, hk, rfl, hjs, hpi, hf2⟩ := hrel
                  have HJS2 := hide hjs
                  have HPI := hide hpi
                  have HF2 := hide hf2
                  clear hjs hpi hf2
                  by_cases hlt : k < K
                  · obtain ⟨z, hz⟩ : ∃ z, (TA.drop i)[k]? = some z := ⟨_, List.getElem?_eq_getElem (by rw [HDLA.out]; omega)⟩
                    have HZ := hide hz
                    have hz2 : TA[i + k]? = some z := by rw [List.getElem?_drop] at hz; exact hz
                    have hzm := List.mem_of_getElem? hz2
                    have HZM := hide hzm
                    have HCZ := HRA.out V2 HF2.out (i + k) z hz2
                    obtain ⟨d0, d1, d2, d3⟩ := HCZ
                    have eoff : (i + k) * 4 = i * 4 + k * 4 := by omega
                    rw [eoff] at d0 d1 d2 d3
                    have HZLO := hide (HLO.out z (by
                      have : z ∈ ((TA.drop i).take (k + 1)) := by rw [take_snoc hz]; simp
                      have e1 : (TA.drop i).take (k + 1) = ((TA.drop i).take K).take (k + 1) := by rw [List.take_take]; congr 1; omega
                      rw [e1] at this
                      exact List.mem_of_mem_take this))
                    have HZA := hide (lo_after HSA.out HX.out hz2 (by omega))
                    obtain ⟨V3, hV3⟩ : ∃ V3, V3 = V2.alloc (.cells #[.int .i64 z.lo, .int .i64 z.hi, .slice z.p z.row.length z.c, .int .i64 z.n] 79) := ⟨_, rfl⟩
                    obtain ⟨gz, hgz⟩ : ∃ gz, gz = V2.heap.size := ⟨_, rfl⟩
                    have f3 : Fr V2 V3 (fun _ => False) := by rw [hV3]; exact Fr.alloc _ _ _
                    have HT3 := hide (show Four V3 gz (.int .i64 z.lo) (.int .i64 z.hi) (.slice z.p z.row.length z.c) (.int .i64 z.n) by rw [hV3, hgz]; exact four_of (heap_alloc_new V2 _))
                    have HF3 := hide ((HF2.out.trans f3).mono (Y := (fun q => q = bo ∨ w.heap.size ≤ q)) (by rintro q _ (h | h); exact h; exact h.elim))
                    have HJS3 := hide (HJS2.out.fr f3)
                    have hkz : (k : Int) < (K : Int) := by omega
                    have hk0 : (0 : Int) ≤ (k : Int) := by omega
                    have HV3 := hide hV3
                    have HGZ := hide hgz
                    clear hz hz2 hzm hV3 hgz f3 HF2
                    go_wp2_with fail
                    rw [← HV3.out, ← HGZ.out]
                    clear d0 d1 d2 d3 HV3
                    refine wp_region_K (fun z => decide (z < 5)) (fun U : World => Fr (V3.drew) U (fun _ => False)) (by kernel_rfl) ?_
                    have hS : (fun U : World => Fr (V3.drew) U (fun _ => False)) V3.drew := Fr.refl _ _
                    have D1 := Fr.drew V3 (fun _ => False)
                    have HF4 := hide ((HF3.out.trans D1).mono (Y := (fun q => q = bo ∨ w.heap.size ≤ q)) (by rintro q _ (h | h); exact h; exact h.elim))
                    have HT4 := hide (HT3.out.fr D1 (fun h => h))
                    have HJS4 := hide (HJS3.out.fr D1)
                    have HCF : Hid (∀ U, Fr (V3.drew) U (fun _ => False) → _) := hide (fun U hU => HCY.out U ((HF4.out.trans hU).mono (Y := (fun q => q = bo ∨ w.heap.size ≤ q)) (by rintro q _ (h | h); exact h; exact h.elim)))
                    clear D1 HT3 HJS3 HF3
                    generalize V3.drew = V4 at *
                    refine wpAnyK_takeTo 0 (some 75) (.func (.func 56) #[] #[.pointer (some ⟨bo, 0, none⟩)]) [5] rfl rfl (by kernel_rfl) (by kernel_rfl) (by kernel_rfl) (by kernel_rfl) (fun _ _ _ h => h) hS (Or.inl ⟨rfl, fun w1 hw1 => by go_simp⟩) ?_
                    simp only [Act.put, List.setIfInBounds_toArray, List.set_cons_zero, List.set_cons_succ]
                    refine wpAnyK_takeTo 1 (some 76) (.agg #[.int .i64 z.lo, .int .i64 z.hi, .slice z.p z.row.length z.c, .int .i64 z.n]) [5] rfl rfl (by kernel_rfl) (by kernel_rfl) (by kernel_rfl) (by kernel_rfl) (fun _ _ _ h => h) hS (Or.inl ⟨rfl, fun w1 hw1 => by have q0 := HT4.out.fr hw1 (fun h => h); obtain ⟨q1, q2, q3, q4, _⟩ := q0; go_simp⟩) ?_
                    simp only [Act.put, List.setIfInBounds_toArray, List.set_cons_zero, List.set_cons_succ]
                    refine wpAnyK_takeTo 2 (some 77) ((.slice (some ⟨gb, j * 4, none⟩) (nb - j) ccb)) [3, 4, 5] rfl rfl (by kernel_rfl) (by kernel_rfl) (by kernel_rfl) (by kernel_rfl) (fun _ _ _ h => h) hS (Or.inl ⟨rfl, fun w1 hw1 => by go_simp⟩) ?_
                    simp only [Act.put, List.setIfInBounds_toArray, List.set_cons_zero, List.set_cons_succ]
                    refine wpAnyK_takeTo 3 (some 78) (.pointer (some ⟨gb, j * 4, none⟩)) [4, 5] rfl rfl (by kernel_rfl) (by kernel_rfl) (by kernel_rfl) (by kernel_rfl) (fun _ _ _ h => h) hS (Or.inl ⟨rfl, fun w1 hw1 => by go_simp; first | done | omega⟩) ?_
                    simp only [Act.put, List.setIfInBounds_toArray, List.set_cons_zero, List.set_cons_succ]
                    refine wpAnyK_takeTo 4 (some 79) (.agg #[.int .i64 y.lo, .int .i64 y.hi, .slice y.p y.row.length y.c, .int .i64 y.n]) [5] rfl rfl (by kernel_rfl) (by kernel_rfl) (by kernel_rfl) (by kernel_rfl) (fun _ _ _ h => h) hS (Or.inl ⟨rfl, fun w1 hw1 => by obtain ⟨q0, q1, q2, q3⟩ := HCF.out _ hw1; go_simp⟩) ?_
                    simp only [Act.put, List.setIfInBounds_toArray, List.set_cons_zero, List.set_cons_succ]
                    refine wpAnyK_one (i := 5) (by kernel_rfl) rfl rfl ?_
                    have HXG := HGA.out z HZM.out
                    have HYG := HGB.out y (List.mem_of_getElem? HY.out)
                    have hmeet : max z.lo y.lo < min z.hi y.hi := by
                      have h1 := HZLO.out
                      have h2 := HZA.out
                      have h3 := HXG.2.2
                      have h4 := HYG.2.2
                      have h5 := HLE.out
                      omega
                    have HCL := hide (jtake_any HJS4.out.b HJS4.out.o (fun e => by have := HJS4.out.n _ e; have := HBW.out; omega) (HRKA.out V4 HF4.out z HZM.out) (HRKB.out V4 HF4.out y (List.mem_of_getElem? HY.out)) (by have h1 := HPI.out.len; have h2 := HPT.out.room (by have := HNA.out; omega) (by have := HNB.out; omega) (k := k) (.inr (by have := HNA.out; omega)); have h3 := HLL.out; rw [HNA.out, HNB.out] at h2; omega) (over_meet HXG.2.2 HYG.2.2 hmeet) (HRL.out z HZM.out y (List.mem_of_getElem? HY.out)) ⟨HXG.1, HXG.2.1⟩ ⟨HYG.1, HYG.2.1⟩)
                    have HMEET := hide hmeet
                    have HXN := hide HXG.1
                    have HYN := hide HYG.1
                    clear hmeet HXG HYG
                    obtain ⟨AR, hAR⟩ : ∃ AR : Array Value, AR = #[.agg #[.int .i64 z.lo, .int .i64 z.hi, .slice z.p z.row.length z.c, .int .i64 z.n], .agg #[.int .i64 y.lo, .int .i64 y.hi, .slice y.p y.row.length y.c, .int .i64 y.n], .pointer (some ⟨bo, 0, none⟩)] := ⟨_, rfl⟩
                    rw [← hAR] at HCL
                    refine wp_call_to (some 80) rfl 56 AR ?_ HCL.out ?_
                    · rw [hAR]
                      go_simp
                    rintro e W9 ⟨rfl, u9, p9, c9, hb9, ho9, hr9, hf9, hfr9⟩
                    refine ⟨_, rfl, fun h => absurd h (by decide), ?_⟩
                    simp only [Act.put, List.setIfInBounds_toArray, List.set_cons_zero, List.set_cons_succ]
                    have hw4 : w.heap.size ≤ V4.heap.size := by have := HF1.out.size; have := HF4.out.size; omega
                    have HJS9 := hide (JS.take HJS4.out HBW.out hw4 hb9 ho9 hr9 hf9 hfr9)
                    have HPI9 := hide (PI.next' HPI.out HZ.out HZM.out (List.mem_of_getElem? HY.out) HXN.out HYN.out HMEET.out p9 c9)
                    have HF9 := hide ((HF4.out.trans hf9).mono (Y := (fun q => q = bo ∨ w.heap.size ≤ q)) (by
                      rintro q hq (h | h)
                      · exact h
                      · rcases h with h | h
                        · exact .inl h
                        · exact .inr (HJS4.out.n q h)))
                    refine wpAnyK_done (by kernel_rfl) ?_ _
                    clear hS HCL hAR hb9 ho9 hr9 hf9 hfr9 HJS4 HF4 HT4 HCF hw4
                    go_wp2
                    go_roundw
                    case rel => exact ⟨k + 1, u9, _, by omega, by go_num, HJS9.out, HPI9.out, HF9.out⟩
                    case measure => simp [intOf]; omega
                  · obtain rfl : k = K := by omega
                    have HPT2 := hide (PT.right HPT.out HY.out (HGB.out y (List.mem_of_getElem? HY.out)).1 (by have := HNA.out; omega) HPI.out (lo_rest HSA.out HGE.out))
                    have hcc2 : (1 : Int) ≤ ((nb - j : Nat) : Int) := by omega
                    clear HPI
                    go_wp2
                    all_goals refine ⟨⟨i, j + 1, _, _, _, ⟨rfl, rfl, rfl⟩, _, ⟨rfl, by omega, rfl⟩, by omega, by omega, by omega, by omega, fun h => ⟨ga, HGAO.out, rfl⟩, fun h => (by first | (exfalso; omega) | exact ⟨gb, HGBO.out, by rw [show (j + 1) * 4 = j * 4 + 4 by omega]⟩), u', Sk, HJS2.out, HPT2.out, HF2.out⟩, by show nb - j - 1 < nb - j; omega⟩
            · obtain rfl : j = nb := by omega
              simp only [Nat.sub_self]
              have hposa : (0 : Int) < ((na - i : Nat) : Int) := by omega
              have HFE := hide ((HF1.out.trans HF00.out).mono (Y := fun k => k = bo ∨ va.ownBlock = some k ∨ vb.ownBlock = some k) (by rintro q hq (h | h | h); exact .inr h; exact .inl h; omega))
              go_wp2
              go_end0
              rw [HPO.out]
              exact ⟨rfl, u, S, TA, TB, HPA.out, HPB.out, HJS0.out, ⟨i, j, HPT.out, .inr (by rw [HNB.out]; omega)⟩, HFE.out⟩
          · obtain rfl : i = na := by omega
            simp only [Nat.sub_self]
            have HFE := hide ((HF1.out.trans HF00.out).mono (Y := fun k => k = bo ∨ va.ownBlock = some k ∨ vb.ownBlock = some k) (by rintro q hq (h | h | h); exact .inr h; exact .inl h; omega))
            go_wp2
            go_end0
            rw [HPO.out]
            exact ⟨rfl, u, S, TA, TB, HPA.out, HPB.out, HJS0.out, ⟨i, j, HPT.out, .inl (by rw [HNA.out]; omega)⟩, HFE.out⟩
end Go.Proofs.YtlapifncplbcnaaGreat
