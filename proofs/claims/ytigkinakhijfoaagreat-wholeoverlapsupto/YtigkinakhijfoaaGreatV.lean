/- merge: one of two kids and the key between them. -/
import Derived.Test.YtigkinakhijfoaaGreatJu
namespace Go.Proofs.YtigkinakhijfoaaGreat
open Go.RowKit
set_option maxRecDepth 100000
set_option linter.unusedVariables false
set_option linter.unusedSimpArgs false

def SMk (pg gk i1 rg : Nat) (kv : Value) (U : World) : Prop := U.cell? ⟨pg, 2, none⟩ = some kv ∧ U.cell? ⟨gk, i1, none⟩ = some (.pointer (some ⟨rg, 0, none⟩))
def SMr (dg pg gl i rg : Nat) (lb lv lr : Value) (mk : ByteArray) (mv : Int) (U : World) : Prop := U.cell? ⟨dg, 1, none⟩ = some lb ∧ U.cell? ⟨pg, 1, none⟩ = some lv ∧ U.cell? ⟨gl, i * 2, none⟩ = some (.string mk) ∧ U.cell? ⟨gl, i * 2 + 1, none⟩ = some (.int .i64 mv) ∧ U.cell? ⟨rg, 1, none⟩ = some lr
theorem SMr.fr {dg pg gl i rg : Nat} {lb lv lr : Value} {mk : ByteArray} {mv : Int} {U V : World} {Z : Nat → Prop} (h : SMr dg pg gl i rg lb lv lr mk mv U) (hf : Fr U V Z) (h1 : ¬ Z dg) (h2 : ¬ Z pg) (h3 : ¬ Z gl) (h4 : ¬ Z rg) : SMr dg pg gl i rg lb lv lr mk mv V :=
  ⟨hf.cell h1 h.1, hf.cell h2 h.2.1, hf.cell h3 h.2.2.1, hf.cell h3 h.2.2.2.1, hf.cell h4 h.2.2.2.2⟩
set_option maxHeartbeats 16000000 in
theorem merge_any {o : Nat} {cur : Int} {h lo : Nat} {w : World} {p e e2 : Kd} {lv kv : Value} {L : List It} {ks : List Kd} {t1 t2 : Int} {le ke lr kr : Value} {Le Lr : List It} {kse ksr : List Kd} {tb root : Nat} {cnt : Int} (hT : TreeB w tb o cnt root cur) (htb : ¬ p.X tb) (hN : NodeV o cur lo w p cur lv kv L ks) (hK : KOk o cur (h + 1) w L ks) {i : Nat} (hi : ks[i]? = some e) (hi2 : ks[i + 1]? = some e2) (hNe : NodeV o cur (o - 1) w e t1 le ke Le kse) (hKe : KOk o cur h w Le kse) (hNr : NodeV o cur (o - 1) w e2 t2 lr kr Lr ksr) (hKr : KOk o cur h w Lr ksr) (hLe : Le.length = o - 1) (hLr : Lr.length = o - 1) (ho2 : 2 ≤ o) (ho : o ≤ 64) :
    Calls Tryz.prog 95 #[.pointer (some ⟨tb, 0, none⟩), .pointer (some ⟨p.g, 0, none⟩), .int .i64 (i : Int)] w (MergQ o cur h L ks i w p) := by
  have hil : i + 1 < ks.length := (List.getElem?_eq_some_iff.1 hi2).1
  have hkl : ks.length = L.length + 1 := hK.1
  have HKD : Hid (∀ V, Fr w V (fun _ => False) → Calls Tryz.prog 51 #[.pointer (some ⟨tb, 0, none⟩), .pointer (some ⟨p.g, 0, none⟩), .int .i64 (i : Int)] V (KidQ o cur h lo lv kv L ks i Le kse V p e)) := hide (fun V hf => kid_any (hT.fr hf (fun h => h)) (hN.fr hf (fun _ _ h => h)) (hK.fr hf (fun _ _ _ _ h => h)) hi (hNe.fr hf (fun _ _ h => h)) (hKe.fr hf (fun _ _ _ _ h => h)) ho)
  obtain ⟨la, lc, ka, kc', rfl, rfl⟩ := hN.shape
  obtain ⟨i1, hi1⟩ : ∃ i1, i1 = i + 1 := ⟨_, rfl⟩
  obtain ⟨pg, hpg⟩ : ∃ pg, pg = p.g := ⟨_, rfl⟩
  obtain ⟨rg, hrg⟩ : ∃ rg, rg = e2.g := ⟨_, rfl⟩
  have hpt : (ptrs ks)[i1]? = some (.pointer (some ⟨rg, 0, none⟩)) := by unfold ptrs; rw [List.getElem?_map, hi1, hi2, hrg]; rfl
  obtain ⟨gk, rfl, ck⟩ := row_cell hN.krow hpt
  have x2 := hN.cells.2.2
  rw [← hpg] at x2 HKD ⊢
  obtain ⟨m, hm⟩ : ∃ m, ks.length = m := ⟨_, rfl⟩
  rw [hm] at x2
  have hi1i : (i : Int) + 1 = (i1 : Int) := by omega
  have hi1m : i1 < m := by omega
  have him : i < m := by omega
  have hmb : m ≤ 128 := by have := hN.high; omega
  have HT := hide hT
  have HTB := hide htb
  have HN := hide hN
  have HK := hide hK
  have HI := hide hi
  have HI2 := hide hi2
  have HPG := hide hpg
  have HRG := hide hrg
  have HIL := hide hil
  have HKL := hide hkl
  have HM := hide hm
  have HI1 := hide hi1
  have HNR := hide hNr
  have HKR := hide hKr
  have HLE := hide hLe
  have HLR := hide hLr
  have HS0 : Hid (SMk pg gk i1 rg (.slice (some ⟨gk, 0, none⟩) m kc') w) := hide ⟨x2, ck⟩
  clear hT htb hN hK hi hi2 hNe hKe hpg hrg hil hkl hm hi1 hNr hKr hLe hLr hpt x2 ck
  go_enter Tryz.func95, Tryz.ntmps95
  go_wp2_with fail
  refine wp_region_K (fun _ => true) (SMk pg gk i1 rg (.slice (some ⟨gk, 0, none⟩) m kc')) (by kernel_rfl) ?_
  have fd := Fr.drew w (fun _ => False)
  have hS : SMk pg gk i1 rg (.slice (some ⟨gk, 0, none⟩) m kc') w.drew := ⟨fd.cell (fun h => h) HS0.out.1, fd.cell (fun h => h) HS0.out.2⟩
  refine wpAnyK_takeTo 0 (some 8) (.pointer (some ⟨tb, 0, none⟩)) [3, 12, 13] rfl rfl (by kernel_rfl) (by kernel_rfl) (by kernel_rfl) (by kernel_rfl) (fun _ _ _ h => h) hS (Or.inl ⟨rfl, fun w1 hw1 => by obtain ⟨q0, q1⟩ := hw1; go_simp <;> try (rw [wrap_nat (by omega)])⟩) ?_
  simp only [Act.put, List.setIfInBounds_toArray, List.set_cons_zero, List.set_cons_succ]
  refine wpAnyK_takeTo 1 (some 9) (.pointer (some ⟨pg, 0, none⟩)) [3, 12, 13] rfl rfl (by kernel_rfl) (by kernel_rfl) (by kernel_rfl) (by kernel_rfl) (fun _ _ _ h => h) hS (Or.inl ⟨rfl, fun w1 hw1 => by obtain ⟨q0, q1⟩ := hw1; go_simp <;> try (rw [wrap_nat (by omega)])⟩) ?_
  simp only [Act.put, List.setIfInBounds_toArray, List.set_cons_zero, List.set_cons_succ]
  refine wpAnyK_takeTo 2 (some 10) (.int .i64 (i : Int)) [3, 12, 13] rfl rfl (by kernel_rfl) (by kernel_rfl) (by kernel_rfl) (by kernel_rfl) (fun _ _ _ h => h) hS (Or.inl ⟨rfl, fun w1 hw1 => by obtain ⟨q0, q1⟩ := hw1; go_simp <;> try (rw [wrap_nat (by omega)])⟩) ?_
  simp only [Act.put, List.setIfInBounds_toArray, List.set_cons_zero, List.set_cons_succ]
  refine wpAnyK_takeTo 4 (some 12) (.pointer (some ⟨pg, 0, none⟩)) [5, 6, 7, 10, 11, 13] rfl rfl (by kernel_rfl) (by kernel_rfl) (by kernel_rfl) (by kernel_rfl) (fun _ _ _ h => h) hS (Or.inl ⟨rfl, fun w1 hw1 => by obtain ⟨q0, q1⟩ := hw1; go_simp <;> try (rw [wrap_nat (by omega)])⟩) ?_
  simp only [Act.put, List.setIfInBounds_toArray, List.set_cons_zero, List.set_cons_succ]
  refine wpAnyK_takeTo 5 (some 13) (.pointer (some ⟨pg, 0, none⟩)) [6, 7, 10, 11, 13] rfl rfl (by kernel_rfl) (by kernel_rfl) (by kernel_rfl) (by kernel_rfl) (fun _ _ _ h => h) hS (Or.inl ⟨rfl, fun w1 hw1 => by obtain ⟨q0, q1⟩ := hw1; go_simp <;> try (rw [wrap_nat (by omega)])⟩) ?_
  simp only [Act.put, List.setIfInBounds_toArray, List.set_cons_zero, List.set_cons_succ]
  refine wpAnyK_takeTo 6 (some 14) (.pointer (some ⟨pg, 2, none⟩)) [7, 10, 11, 13] rfl rfl (by kernel_rfl) (by kernel_rfl) (by kernel_rfl) (by kernel_rfl) (fun _ _ _ h => h) hS (Or.inl ⟨rfl, fun w1 hw1 => by obtain ⟨q0, q1⟩ := hw1; go_simp <;> try (rw [wrap_nat (by omega)])⟩) ?_
  simp only [Act.put, List.setIfInBounds_toArray, List.set_cons_zero, List.set_cons_succ]
  refine wpAnyK_takeTo 7 (some 15) (.slice (some ⟨gk, 0, none⟩) m kc') [10, 11, 13] rfl rfl (by kernel_rfl) (by kernel_rfl) (by kernel_rfl) (by kernel_rfl) (fun _ _ _ h => h) hS (Or.inl ⟨rfl, fun w1 hw1 => by obtain ⟨q0, q1⟩ := hw1; go_simp <;> try (rw [wrap_nat (by omega)])⟩) ?_
  simp only [Act.put, List.setIfInBounds_toArray, List.set_cons_zero, List.set_cons_succ]
  refine wpAnyK_takeTo 8 (some 16) (.int .i64 (i : Int)) [9, 10, 11, 13] rfl rfl (by kernel_rfl) (by kernel_rfl) (by kernel_rfl) (by kernel_rfl) (fun _ _ _ h => h) hS (Or.inl ⟨rfl, fun w1 hw1 => by obtain ⟨q0, q1⟩ := hw1; go_simp <;> try (rw [wrap_nat (by omega)])⟩) ?_
  simp only [Act.put, List.setIfInBounds_toArray, List.set_cons_zero, List.set_cons_succ]
  refine wpAnyK_takeTo 9 (some 17) (.int .i64 (i1 : Int)) [10, 11, 13] rfl rfl (by kernel_rfl) (by kernel_rfl) (by kernel_rfl) (by kernel_rfl) (fun _ _ _ h => h) hS (Or.inl ⟨rfl, fun w1 hw1 => by obtain ⟨q0, q1⟩ := hw1; go_simp <;> try (rw [wrap_nat (by omega)])⟩) ?_
  simp only [Act.put, List.setIfInBounds_toArray, List.set_cons_zero, List.set_cons_succ]
  refine wpAnyK_takeTo 10 (some 18) (.pointer (some ⟨gk, i1, none⟩)) [11, 13] rfl rfl (by kernel_rfl) (by kernel_rfl) (by kernel_rfl) (by kernel_rfl) (fun _ _ _ h => h) hS (Or.inl ⟨rfl, fun w1 hw1 => by obtain ⟨q0, q1⟩ := hw1; go_simp <;> try (rw [wrap_nat (by omega)])⟩) ?_
  simp only [Act.put, List.setIfInBounds_toArray, List.set_cons_zero, List.set_cons_succ]
  refine wpAnyK_takeTo 11 (some 19) (.pointer (some ⟨rg, 0, none⟩)) [13] rfl rfl (by kernel_rfl) (by kernel_rfl) (by kernel_rfl) (by kernel_rfl) (fun _ _ _ h => h) hS (Or.inl ⟨rfl, fun w1 hw1 => by obtain ⟨q0, q1⟩ := hw1; go_simp <;> try (rw [wrap_nat (by omega)])⟩) ?_
  simp only [Act.put, List.setIfInBounds_toArray, List.set_cons_zero, List.set_cons_succ]
  refine wpAnyK_one (i := 3) (by kernel_rfl) rfl rfl ?_
  refine wp_call_to (some 11) rfl 51 #[.pointer (some ⟨tb, 0, none⟩), .pointer (some ⟨pg, 0, none⟩), .int .i64 (i : Int)] (by go_simp) (HKD.out _ fd) ?_
  rintro en W1 ⟨p1, d, lb, kb, rfl, hg1, hF1, hn1, hk1, hnd, hkd, hFd, hX1, hY1, hXd, hYd, f1⟩
  have hpg1 : p1.g = pg := by rw [hg1, HPG.out]
  have hd2 : (ks.set i d)[i + 1]? = some e2 := by rw [List.getElem?_set, if_neg (by omega)]; exact HI2.out
  replace hS : SMk pg gk i1 rg (.slice (some ⟨gk, 0, none⟩) m kc') W1 := by
    have c2 := hn1.cells.2.2
    rw [hpg1, HM.out] at c2
    have hkw := hn1.krow
    rw [List.length_set] at hkw
    obtain ⟨g', e1, c3⟩ := row_cell hkw (show (ptrs (ks.set i d))[i1]? = some (.pointer (some ⟨rg, 0, none⟩)) by unfold ptrs; rw [List.getElem?_map, HI1.out, hd2, HRG.out]; rfl)
    cases e1
    exact ⟨c2, c3⟩
  refine ⟨_, rfl, fun _ => hS, ?_⟩
  simp only [Act.put, List.setIfInBounds_toArray, List.set_cons_zero, List.set_cons_succ]
  obtain ⟨dg, hdg⟩ : ∃ dg, dg = d.g := ⟨_, rfl⟩
  rw [← hdg]
  refine wpAnyK_takeTo 12 (some 6) (.pointer (some ⟨dg, 0, none⟩)) [13] rfl rfl (by kernel_rfl) (by kernel_rfl) (by kernel_rfl) (by kernel_rfl) (fun _ _ _ h => h) hS (Or.inl ⟨rfl, fun w1 hw1 => by obtain ⟨q0, q1⟩ := hw1; go_simp⟩) ?_
  simp only [Act.put, List.setIfInBounds_toArray, List.set_cons_zero, List.set_cons_succ]
  refine wpAnyK_takeTo 13 (some 7) (.pointer (some ⟨rg, 0, none⟩)) [] rfl rfl (by kernel_rfl) (by kernel_rfl) (by kernel_rfl) (by kernel_rfl) (fun _ _ _ h => h) hS (Or.inl ⟨rfl, fun w1 hw1 => by obtain ⟨q0, q1⟩ := hw1; go_simp⟩) ?_
  simp only [Act.put, List.setIfInBounds_toArray, List.set_cons_zero, List.set_cons_succ]
  refine wpAnyK_done (by kernel_rfl) ?_ _
  clear hS
  have hmem2 : e2 ∈ ks := List.mem_of_getElem? HI2.out
  have hnr : NodeV o cur (o - 1) W1 e2 t2 lr kr Lr ksr := (HNR.out.fr fd (fun _ _ h => h)).fr f1 (fun k hk hz => HN.out.apk e2 hmem2 k hz hk)
  have hkr : KOk o cur h W1 Lr ksr := (HKR.out.fr fd (fun _ _ _ _ h => h)).fr f1 (fun x hx k hk hz => HN.out.apk e2 hmem2 k hz (HNR.out.sx x hx k hk))
  have hmem2' : e2 ∈ ks.set i d := List.mem_of_getElem? hd2
  have hdm : d ∈ ks.set i d := List.mem_of_getElem? (show (ks.set i d)[i]? = some d by rw [List.getElem?_set_self (by have := HIL.out; omega)])
  have hde : ∀ k, d.X k → ¬ e2.X k := hn1.apart i (i + 1) d e2 (by rw [List.getElem?_set_self (by have := HIL.out; omega)]) hd2 (by omega)
  obtain ⟨la1, lc1, ka1, kc1, rfl, rfl⟩ := hnd.shape
  obtain ⟨ra, lc2, rk, rkc, rfl, rfl⟩ := hnr.shape
  obtain ⟨x0, hx0⟩ : ∃ x, Lr[0]? = some x := ⟨_, List.getElem?_eq_getElem (by have := HLR.out; omega)⟩
  obtain ⟨gr, rfl, _⟩ := row_cell hnr.row (encI_get Lr 0 _ hx0).1
  obtain ⟨⟨mk, mv⟩, hmk⟩ : ∃ x, L[i]? = some x := ⟨_, List.getElem?_eq_getElem (by have := HKL.out; have := HIL.out; omega)⟩
  obtain ⟨gl, rfl, ci⟩ := row_cell hn1.row (encI_get L i _ hmk).1
  obtain ⟨g6, e6, cj⟩ := row_cell hn1.row (encI_get L i _ hmk).2
  cases e6
  dsimp only at ci cj
  have sA := hn1.setX
  have sB := hnd.setX
  have sR := hnr.setX
  have rA := hn1.raw
  have rB := hnd.raw
  have rR := hnr.raw
  rw [hpg1] at rA sA
  rw [← hdg] at rB sB
  rw [← HRG.out] at rR sR
  obtain ⟨n, hn⟩ : ∃ n, L.length = n := ⟨_, rfl⟩
  obtain ⟨n1, hn1'⟩ : ∃ n1, Le.length = n1 := ⟨_, rfl⟩
  obtain ⟨n2, hn2⟩ : ∃ n2, Lr.length = n2 := ⟨_, rfl⟩
  have xA := rA.cells.2.1
  have xB := rB.cells.2.1
  have xR := rR.cells.2.1
  rw [hn] at xA
  rw [hn1'] at xB
  rw [hn2] at xR
  have hin : i < n := by have := HKL.out; have := HIL.out; omega
  have hnb : n ≤ 127 := by have := hn1.high; omega
  have hn1b : n1 ≤ 64 := by have := HLE.out; omega
  have hn2b : n2 ≤ 64 := by have := HLR.out; omega
  obtain ⟨SA, hSA⟩ : ∃ SA : Nat → Prop, SA = SetOf pg (.slice (some ⟨gl, 0, none⟩) L.length lc) (.slice (some ⟨gk, 0, none⟩) ks.length kc') := ⟨_, rfl⟩
  obtain ⟨SB, hSB⟩ : ∃ SB : Nat → Prop, SB = SetOf dg (.slice la1 Le.length lc1) (.slice ka1 kse.length kc1) := ⟨_, rfl⟩
  obtain ⟨SR, hSR⟩ : ∃ SR : Nat → Prop, SR = SetOf rg (.slice (some ⟨gr, 0, none⟩) Lr.length lc2) (.slice rk ksr.length rkc) := ⟨_, rfl⟩
  rw [← hSA] at rA sA
  rw [← hSB] at rB sB
  rw [← hSR] at rR sR
  have hAB : ∀ k, SA k → ¬ SB k := fun k ha hb => sA.2.2 d hdm k (sB.1 k hb) ha
  have hAR : ∀ k, SA k → ¬ SR k := fun k ha hb => sA.2.2 e2 hmem2' k (sR.1 k hb) ha
  have hBR : ∀ k, SB k → ¬ SR k := fun k ha hb => hde k (sB.1 k ha) (sR.1 k hb)
  have hpA : SA pg := rA.ins pg (.inl rfl)
  have hdB : SB dg := rB.ins dg (.inl rfl)
  have hrR : SR rg := rR.ins rg (.inl rfl)
  have hglA : SA gl := rA.ins gl (.inr (.inl rfl))
  have howB : ∀ k, (Value.slice la1 n1 lc1).ownBlock = some k → SB k := fun k hk => rB.ins k (.inr (.inl (by rw [hn1']; exact hk)))
  have h3 := rB.three.1
  rw [hn1'] at h3
  have HS1 : Hid (SMr dg pg gl i rg (.slice la1 n1 lc1) (.slice (some ⟨gl, 0, none⟩) n lc) (.slice (some ⟨gr, 0, none⟩) n2 lc2) mk mv W1) := hide ⟨xB, xA, ci, cj, xR⟩
  have HSA := hide sA
  have HSB := hide sB
  have HN1 := hide hn1
  have HK1 := hide hk1
  have HND := hide hnd
  have HKD1 := hide hkd
  have HNR1 := hide hnr
  have HKR1 := hide hkr
  have HX1 := hide hX1
  have HY1 := hide hY1
  have HF1 := hide hF1
  have HG1 := hide hg1
  have HPG1 := hide hpg1
  have HDG := hide hdg
  have HMK := hide hmk
  have HLN := hide hn
  have HLN1 := hide hn1'
  have HLN2 := hide hn2
  have HSA' := hide hSA
  have HSB' := hide hSB
  have HFD := hide fd
  have Hf1 := hide f1
  clear sA sB sR hn1 hk1 hnd hkd hnr hkr hX1 hY1 hF1 hg1 hpg1 hdg hmk hn hn1' hn2 hSA hSB hSR fd f1 xA xB xR ci cj hx0 hFd hXd hYd hd2 hmem2 hmem2' hdm hde HKD HS0
  go_wp2_with fail
  refine wp_region_K (fun z => decide (z < 19)) (SMr dg pg gl i rg (.slice la1 n1 lc1) (.slice (some ⟨gl, 0, none⟩) n lc) (.slice (some ⟨gr, 0, none⟩) n2 lc2) mk mv) (by kernel_rfl) ?_
  obtain ⟨Wd, hWd⟩ : ∃ Wd, Wd = W1.drew := ⟨_, rfl⟩
  have F1 : Fr W1 Wd (fun _ => False) := by rw [hWd]; exact Fr.drew _ _
  rw [← hWd]
  clear hWd
  have hS := HS1.out.fr F1 (fun h => h) (fun h => h) (fun h => h) (fun h => h)
  replace rA := rA.fr F1 (fun _ _ h => h)
  replace rB := rB.fr F1 (fun _ _ h => h)
  replace rR := rR.fr F1 (fun _ _ h => h)
  have HW1d := hide F1
  clear HS1 F1
  refine wpAnyK_takeTo 0 (some 20) (.pointer (some ⟨dg, 0, none⟩)) [19, 20, 21] rfl rfl (by kernel_rfl) (by kernel_rfl) (by kernel_rfl) (by kernel_rfl) (fun _ _ _ h => h) hS (Or.inl ⟨rfl, fun w1 hw1 => by obtain ⟨q0, q1, q2, q3, q4⟩ := hw1; go_simp⟩) ?_
  simp only [Act.put, List.setIfInBounds_toArray, List.set_cons_zero, List.set_cons_succ]
  refine wpAnyK_takeTo 1 (some 21) (.pointer (some ⟨dg, 0, none⟩)) [2, 3, 4, 13, 18, 19, 20, 21] rfl rfl (by kernel_rfl) (by kernel_rfl) (by kernel_rfl) (by kernel_rfl) (fun _ _ _ h => h) hS (Or.inl ⟨rfl, fun w1 hw1 => by obtain ⟨q0, q1, q2, q3, q4⟩ := hw1; go_simp⟩) ?_
  simp only [Act.put, List.setIfInBounds_toArray, List.set_cons_zero, List.set_cons_succ]
  refine wpAnyK_takeTo 2 (some 22) (.pointer (some ⟨dg, 0, none⟩)) [3, 4, 13, 18, 19, 20, 21] rfl rfl (by kernel_rfl) (by kernel_rfl) (by kernel_rfl) (by kernel_rfl) (fun _ _ _ h => h) hS (Or.inl ⟨rfl, fun w1 hw1 => by obtain ⟨q0, q1, q2, q3, q4⟩ := hw1; go_simp⟩) ?_
  simp only [Act.put, List.setIfInBounds_toArray, List.set_cons_zero, List.set_cons_succ]
  refine wpAnyK_takeTo 3 (some 23) (.pointer (some ⟨dg, 1, none⟩)) [4, 13, 18, 19, 20, 21] rfl rfl (by kernel_rfl) (by kernel_rfl) (by kernel_rfl) (by kernel_rfl) (fun _ _ _ h => h) hS (Or.inl ⟨rfl, fun w1 hw1 => by obtain ⟨q0, q1, q2, q3, q4⟩ := hw1; go_simp⟩) ?_
  simp only [Act.put, List.setIfInBounds_toArray, List.set_cons_zero, List.set_cons_succ]
  refine wpAnyK_takeTo 4 (some 24) (.slice la1 n1 lc1) [13, 18, 19, 20, 21] rfl rfl (by kernel_rfl) (by kernel_rfl) (by kernel_rfl) (by kernel_rfl) (fun _ _ _ h => h) hS (Or.inl ⟨rfl, fun w1 hw1 => by obtain ⟨q0, q1, q2, q3, q4⟩ := hw1; go_simp⟩) ?_
  simp only [Act.put, List.setIfInBounds_toArray, List.set_cons_zero, List.set_cons_succ]
  refine wpAnyK_takeTo 5 (some 25) (.pointer (some ⟨pg, 0, none⟩)) [6, 7, 8, 10, 11, 12, 13, 18, 19, 20, 21] rfl rfl (by kernel_rfl) (by kernel_rfl) (by kernel_rfl) (by kernel_rfl) (fun _ _ _ h => h) hS (Or.inl ⟨rfl, fun w1 hw1 => by obtain ⟨q0, q1, q2, q3, q4⟩ := hw1; go_simp⟩) ?_
  simp only [Act.put, List.setIfInBounds_toArray, List.set_cons_zero, List.set_cons_succ]
  refine wpAnyK_takeTo 6 (some 26) (.pointer (some ⟨pg, 0, none⟩)) [7, 8, 10, 11, 12, 13, 18, 19, 20, 21] rfl rfl (by kernel_rfl) (by kernel_rfl) (by kernel_rfl) (by kernel_rfl) (fun _ _ _ h => h) hS (Or.inl ⟨rfl, fun w1 hw1 => by obtain ⟨q0, q1, q2, q3, q4⟩ := hw1; go_simp⟩) ?_
  simp only [Act.put, List.setIfInBounds_toArray, List.set_cons_zero, List.set_cons_succ]
  refine wpAnyK_takeTo 7 (some 27) (.pointer (some ⟨pg, 1, none⟩)) [8, 10, 11, 12, 13, 18, 19, 20, 21] rfl rfl (by kernel_rfl) (by kernel_rfl) (by kernel_rfl) (by kernel_rfl) (fun _ _ _ h => h) hS (Or.inl ⟨rfl, fun w1 hw1 => by obtain ⟨q0, q1, q2, q3, q4⟩ := hw1; go_simp⟩) ?_
  simp only [Act.put, List.setIfInBounds_toArray, List.set_cons_zero, List.set_cons_succ]
  refine wpAnyK_takeTo 8 (some 28) (.slice (some ⟨gl, 0, none⟩) n lc) [10, 11, 12, 13, 18, 19, 20, 21] rfl rfl (by kernel_rfl) (by kernel_rfl) (by kernel_rfl) (by kernel_rfl) (fun _ _ _ h => h) hS (Or.inl ⟨rfl, fun w1 hw1 => by obtain ⟨q0, q1, q2, q3, q4⟩ := hw1; go_simp⟩) ?_
  simp only [Act.put, List.setIfInBounds_toArray, List.set_cons_zero, List.set_cons_succ]
  refine wpAnyK_takeTo 9 (some 29) (.int .i64 (i : Int)) [10, 11, 12, 13, 18, 19, 20, 21] rfl rfl (by kernel_rfl) (by kernel_rfl) (by kernel_rfl) (by kernel_rfl) (fun _ _ _ h => h) hS (Or.inl ⟨rfl, fun w1 hw1 => by obtain ⟨q0, q1, q2, q3, q4⟩ := hw1; go_simp⟩) ?_
  simp only [Act.put, List.setIfInBounds_toArray, List.set_cons_zero, List.set_cons_succ]
  refine wpAnyK_takeTo 10 (some 30) (.pointer (some ⟨gl, i * 2, none⟩)) [11, 12, 13, 18, 19, 20, 21] rfl rfl (by kernel_rfl) (by kernel_rfl) (by kernel_rfl) (by kernel_rfl) (fun _ _ _ h => h) hS (Or.inl ⟨rfl, fun w1 hw1 => by obtain ⟨q0, q1, q2, q3, q4⟩ := hw1; go_simp⟩) ?_
  simp only [Act.put, List.setIfInBounds_toArray, List.set_cons_zero, List.set_cons_succ]
  refine wpAnyK_takeTo 11 (some 31) (.agg #[.string mk, .int .i64 mv]) [12, 13, 18, 19, 20, 21] rfl rfl (by kernel_rfl) (by kernel_rfl) (by kernel_rfl) (by kernel_rfl) (fun _ _ _ h => h) hS (Or.inl ⟨rfl, fun w1 hw1 => by obtain ⟨q0, q1, q2, q3, q4⟩ := hw1; go_simp⟩) ?_
  simp only [Act.put, List.setIfInBounds_toArray, List.set_cons_zero, List.set_cons_succ]
  refine wpAnyK_takeTo 14 (some 34) (.pointer (some ⟨rg, 0, none⟩)) [15, 16, 17, 18, 19, 20, 21] rfl rfl (by kernel_rfl) (by kernel_rfl) (by kernel_rfl) (by kernel_rfl) (fun _ _ _ h => h) hS (Or.inl ⟨rfl, fun w1 hw1 => by obtain ⟨q0, q1, q2, q3, q4⟩ := hw1; go_simp⟩) ?_
  simp only [Act.put, List.setIfInBounds_toArray, List.set_cons_zero, List.set_cons_succ]
  refine wpAnyK_takeTo 15 (some 35) (.pointer (some ⟨rg, 0, none⟩)) [16, 17, 18, 19, 20, 21] rfl rfl (by kernel_rfl) (by kernel_rfl) (by kernel_rfl) (by kernel_rfl) (fun _ _ _ h => h) hS (Or.inl ⟨rfl, fun w1 hw1 => by obtain ⟨q0, q1, q2, q3, q4⟩ := hw1; go_simp⟩) ?_
  simp only [Act.put, List.setIfInBounds_toArray, List.set_cons_zero, List.set_cons_succ]
  refine wpAnyK_takeTo 16 (some 36) (.pointer (some ⟨rg, 1, none⟩)) [17, 18, 19, 20, 21] rfl rfl (by kernel_rfl) (by kernel_rfl) (by kernel_rfl) (by kernel_rfl) (fun _ _ _ h => h) hS (Or.inl ⟨rfl, fun w1 hw1 => by obtain ⟨q0, q1, q2, q3, q4⟩ := hw1; go_simp⟩) ?_
  simp only [Act.put, List.setIfInBounds_toArray, List.set_cons_zero, List.set_cons_succ]
  refine wpAnyK_takeTo 17 (some 37) (.slice (some ⟨gr, 0, none⟩) n2 lc2) [18, 19, 20, 21] rfl rfl (by kernel_rfl) (by kernel_rfl) (by kernel_rfl) (by kernel_rfl) (fun _ _ _ h => h) hS (Or.inl ⟨rfl, fun w1 hw1 => by obtain ⟨q0, q1, q2, q3, q4⟩ := hw1; go_simp⟩) ?_
  simp only [Act.put, List.setIfInBounds_toArray, List.set_cons_zero, List.set_cons_succ]
  obtain ⟨a1, c1, W3, hr3, q1, q2, q3⟩ := app_item (w := Wd) (v := .slice la1 n1 lc1) (n := n1) (Le := Le) (by have h := rB.row; rw [HLN1.out] at h; exact h) mk mv (by omega)
  have hb1 : ∀ {Z : World}, Fr Wd Z (fun k => (Value.slice la1 n1 lc1).ownBlock = some k) → SMr dg pg gl i rg (.slice la1 n1 lc1) (.slice (some ⟨gl, 0, none⟩) n lc) (.slice (some ⟨gr, 0, none⟩) n2 lc2) mk mv Z := fun {Z} f => hS.fr f (fun h => h3 _ h rfl) (fun h => hAB _ hpA (howB _ h)) (fun h => hAB _ hglA (howB _ h)) (fun h => hBR _ (howB _ h) hrR)
  have rR3 := rR.fr q2 (fun k hk hz => hBR k (howB k hz) hk)
  obtain ⟨a2, c2, W4, hr4, q4, q5, q6⟩ := app_items (w := W3) (v := .slice a1 (n1 + 1) c1) (n := n1 + 1) (Le := Le ++ [⟨mk, mv⟩]) (Lr := Lr) (m := n2) (c := lc2) (gr := gr) q1 (by have h := rR3.row; rw [HLN2.out] at h; exact h) (by omega)
  obtain ⟨n3, hn3⟩ : ∃ n3, n3 = n1 + 1 := ⟨_, rfl⟩
  obtain ⟨n4, hn4⟩ : ∃ n4, n4 = n1 + 1 + n2 := ⟨_, rfl⟩
  have f4 := q2.fresh q3 q5
  have q7 := q3.trans q6 q2.size
  have GA := Fr.alloc Wd (.cells #[.string mk, .int .i64 mv] 106) (fun k => (Value.slice la1 n1 lc1).ownBlock = some k)
  obtain ⟨VB, hVB⟩ : ∃ VB, VB = Wd.heap.size := ⟨_, rfl⟩
  obtain ⟨Wa, hWa⟩ : ∃ Wa, Wa = Wd.alloc (.cells #[.string mk, .int .i64 mv] 106) := ⟨_, rfl⟩
  rw [← hWa, ← hVB] at hr3
  rw [← hWa] at GA
  rw [← hn4] at hr4 q4 q6 q7
  have hset := rB.setL (w1 := W4) (lv' := .slice a2 n4 c2) (L' := Le ++ [⟨mk, mv⟩] ++ Lr) (by rw [show (Le ++ [(⟨mk, mv⟩ : It)] ++ Lr).length = n4 by rw [List.length_append, List.length_append, HLN1.out, HLN2.out, hn4]; rfl]; exact q4) (by rw [HLN1.out]; exact f4) (by rw [HLN1.out]; exact q7)
  rw [← hn3] at hr3 hr4
  obtain ⟨W5, hW5⟩ : ∃ W5, W5 = W4.setCell ⟨dg, 1, none⟩ (.slice a2 n4 c2) := ⟨_, rfl⟩
  rw [← hW5] at hset
  obtain ⟨rB5, F5, z1, z2⟩ := hset
  rw [HLN1.out] at z1
  have hSa := hb1 GA
  have hS3 := hb1 q2
  have hS4 := hb1 f4
  have HWa := hide hWa
  have HVB := hide hVB
  have HN3 := hide hn3
  have HN4 := hide hn4
  have HW5 := hide hW5
  clear hWa hVB hn3 hn4 hW5 hb1 q1 q2 q3 q4 q5 q6 q7 f4 GA rR3
  refine wpAnyK_one (i := 12) (by kernel_rfl) rfl rfl ?_
  go_simp
  rw [← HWa.out, ← HVB.out]
  refine ⟨hSa, ?_⟩
  refine wpAnyK_one (i := 13) (by kernel_rfl) rfl rfl ?_
  refine wp_append_to (.tmp 24) (.tmp 32) 75 rfl (some 33) rfl 75 rfl _ _ rfl rfl _ W3 hr3 ?_
  simp only [Act.put, List.setIfInBounds_toArray, List.set_cons_zero, List.set_cons_succ]
  refine ⟨fun _ => hS3, ?_⟩
  refine wpAnyK_one (i := 18) (by kernel_rfl) rfl rfl ?_
  refine wp_append_to (.tmp 33) (.tmp 37) 75 rfl (some 38) rfl 75 rfl _ _ rfl rfl _ W4 hr4 ?_
  simp only [Act.put, List.setIfInBounds_toArray, List.set_cons_zero, List.set_cons_succ]
  refine ⟨fun _ => hS4, ?_⟩
  clear hS hSa hS3 hS4 hr3 hr4
  refine wpAnyK_one (i := 19) (by kernel_rfl) rfl rfl ?_
  go_simp
  refine wpAnyK_one (i := 20) (by kernel_rfl) rfl rfl ?_
  go_simp
  refine wpAnyK_one (i := 21) (by kernel_rfl) rfl rfl ?_
  go_simp
  rw [← HW5.out]
  refine wpAnyK_done (by kernel_rfl) ?_ _
  clear HW5 z1 z2
  have hAd := rA.lt
  have hRd := rR.lt
  replace rA := rA.fr F5 hAB
  replace rR := rR.fr F5 (fun k hr hb => hBR k hb hr)
  have hsd := HW1d.out.size
  obtain ⟨SB5, hSB5⟩ : ∃ SB5 : Nat → Prop, SB5 = fun k => SB k ∨ (Wd.heap.size ≤ k ∧ k < W5.heap.size) := ⟨_, rfl⟩
  rw [← hSB5] at rB5
  have hB5 : ∀ k, SB5 k → SB k ∨ W1.heap.size ≤ k := fun k hk => by
    rw [hSB5] at hk
    rcases hk with hk | hk
    · exact .inl hk
    · exact .inr (by omega)
  have hAB5 : ∀ k, SA k → ¬ SB5 k := fun k ha hb => by
    rw [hSB5] at hb
    rcases hb with hb | hb
    · exact hAB k ha hb
    · have := hAd k ha; omega
  have hBR5 : ∀ k, SB5 k → ¬ SR k := fun k hb hr => by
    rw [hSB5] at hb
    rcases hb with hb | hb
    · exact hBR k hb hr
    · have := hRd k hr; omega
  have HF5 : Hid (Fr W1 W5 (fun k => SA k ∨ SB k ∨ W1.heap.size ≤ k)) := hide ((HW1d.out.mono (fun _ _ h => h.elim)).two (F5.mono (fun k _ h => .inr (.inl h))))
  clear hAd hRd hSB5 F5 hsd rB hAB hBR hdB howB h3 hglA
  obtain ⟨m1, hm1⟩ : ∃ m1, kse.length = m1 := ⟨_, rfl⟩
  obtain ⟨m2, hm2⟩ : ∃ m2, ksr.length = m2 := ⟨_, rfl⟩
  have hm1b : m1 ≤ 65 := by
    rcases HKD1.out.len with ⟨_, h1⟩ | ⟨_, h1⟩
    · omega
    · have := HLE.out; omega
  have hm2b : m2 ≤ 65 := by
    rcases HKR1.out.len with ⟨_, h1⟩ | ⟨_, h1⟩
    · omega
    · have := HLR.out; omega
  have xB := rB5.cells.2.2
  have xR := rR.cells.2.2
  rw [hm1] at xB
  rw [hm2] at xR
  have HS2 : Hid (SK2 dg rg (.slice ka1 m1 kc1) (.slice rk m2 rkc) W5) := hide ⟨xB, xR⟩
  have HM1 := hide hm1
  have HM2 := hide hm2
  clear hm1 hm2 xB xR
  go_wp2_with fail
  refine wp_region_K (fun z => decide (z < 10)) (SK2 dg rg (.slice ka1 m1 kc1) (.slice rk m2 rkc)) (by kernel_rfl) ?_
  obtain ⟨We, hWe⟩ : ∃ We, We = W5.drew := ⟨_, rfl⟩
  have F1 : Fr W5 We (fun _ => False) := by rw [hWe]; exact Fr.drew _ _
  rw [← hWe]
  clear hWe
  have hS : SK2 dg rg (.slice ka1 m1 kc1) (.slice rk m2 rkc) We := ⟨F1.cell (fun h => h) HS2.out.1, F1.cell (fun h => h) HS2.out.2⟩
  replace rA := rA.fr F1 (fun _ _ h => h)
  replace rB5 := rB5.fr F1 (fun _ _ h => h)
  replace rR := rR.fr F1 (fun _ _ h => h)
  have HW5e := hide F1
  clear HS2 F1
  refine wpAnyK_takeTo 0 (some 41) (.pointer (some ⟨dg, 0, none⟩)) [10, 11, 12] rfl rfl (by kernel_rfl) (by kernel_rfl) (by kernel_rfl) (by kernel_rfl) (fun _ _ _ h => h) hS (Or.inl ⟨rfl, fun w1 hw1 => by obtain ⟨q0, q1⟩ := hw1; go_simp⟩) ?_
  simp only [Act.put, List.setIfInBounds_toArray, List.set_cons_zero, List.set_cons_succ]
  refine wpAnyK_takeTo 1 (some 42) (.pointer (some ⟨dg, 0, none⟩)) [2, 3, 4, 9, 10, 11, 12] rfl rfl (by kernel_rfl) (by kernel_rfl) (by kernel_rfl) (by kernel_rfl) (fun _ _ _ h => h) hS (Or.inl ⟨rfl, fun w1 hw1 => by obtain ⟨q0, q1⟩ := hw1; go_simp⟩) ?_
  simp only [Act.put, List.setIfInBounds_toArray, List.set_cons_zero, List.set_cons_succ]
  refine wpAnyK_takeTo 2 (some 43) (.pointer (some ⟨dg, 0, none⟩)) [3, 4, 9, 10, 11, 12] rfl rfl (by kernel_rfl) (by kernel_rfl) (by kernel_rfl) (by kernel_rfl) (fun _ _ _ h => h) hS (Or.inl ⟨rfl, fun w1 hw1 => by obtain ⟨q0, q1⟩ := hw1; go_simp⟩) ?_
  simp only [Act.put, List.setIfInBounds_toArray, List.set_cons_zero, List.set_cons_succ]
  refine wpAnyK_takeTo 3 (some 44) (.pointer (some ⟨dg, 2, none⟩)) [4, 9, 10, 11, 12] rfl rfl (by kernel_rfl) (by kernel_rfl) (by kernel_rfl) (by kernel_rfl) (fun _ _ _ h => h) hS (Or.inl ⟨rfl, fun w1 hw1 => by obtain ⟨q0, q1⟩ := hw1; go_simp⟩) ?_
  simp only [Act.put, List.setIfInBounds_toArray, List.set_cons_zero, List.set_cons_succ]
  refine wpAnyK_takeTo 4 (some 45) (.slice ka1 m1 kc1) [9, 10, 11, 12] rfl rfl (by kernel_rfl) (by kernel_rfl) (by kernel_rfl) (by kernel_rfl) (fun _ _ _ h => h) hS (Or.inl ⟨rfl, fun w1 hw1 => by obtain ⟨q0, q1⟩ := hw1; go_simp⟩) ?_
  simp only [Act.put, List.setIfInBounds_toArray, List.set_cons_zero, List.set_cons_succ]
  refine wpAnyK_takeTo 5 (some 46) (.pointer (some ⟨rg, 0, none⟩)) [6, 7, 8, 9, 10, 11, 12] rfl rfl (by kernel_rfl) (by kernel_rfl) (by kernel_rfl) (by kernel_rfl) (fun _ _ _ h => h) hS (Or.inl ⟨rfl, fun w1 hw1 => by obtain ⟨q0, q1⟩ := hw1; go_simp⟩) ?_
  simp only [Act.put, List.setIfInBounds_toArray, List.set_cons_zero, List.set_cons_succ]
  refine wpAnyK_takeTo 6 (some 47) (.pointer (some ⟨rg, 0, none⟩)) [7, 8, 9, 10, 11, 12] rfl rfl (by kernel_rfl) (by kernel_rfl) (by kernel_rfl) (by kernel_rfl) (fun _ _ _ h => h) hS (Or.inl ⟨rfl, fun w1 hw1 => by obtain ⟨q0, q1⟩ := hw1; go_simp⟩) ?_
  simp only [Act.put, List.setIfInBounds_toArray, List.set_cons_zero, List.set_cons_succ]
  refine wpAnyK_takeTo 7 (some 48) (.pointer (some ⟨rg, 2, none⟩)) [8, 9, 10, 11, 12] rfl rfl (by kernel_rfl) (by kernel_rfl) (by kernel_rfl) (by kernel_rfl) (fun _ _ _ h => h) hS (Or.inl ⟨rfl, fun w1 hw1 => by obtain ⟨q0, q1⟩ := hw1; go_simp⟩) ?_
  simp only [Act.put, List.setIfInBounds_toArray, List.set_cons_zero, List.set_cons_succ]
  refine wpAnyK_takeTo 8 (some 49) (.slice rk m2 rkc) [9, 10, 11, 12] rfl rfl (by kernel_rfl) (by kernel_rfl) (by kernel_rfl) (by kernel_rfl) (fun _ _ _ h => h) hS (Or.inl ⟨rfl, fun w1 hw1 => by obtain ⟨q0, q1⟩ := hw1; go_simp⟩) ?_
  simp only [Act.put, List.setIfInBounds_toArray, List.set_cons_zero, List.set_cons_succ]
  have kB := rB5.krow
  have kR := rR.krow
  have h3 := rB5.three
  rw [List.length_map, HM1.out] at kB
  rw [List.length_map, HM2.out] at kR
  rw [HM1.out] at h3
  have howB : ∀ k, (Value.slice ka1 m1 kc1).ownBlock = some k → SB5 k := fun k hk => rB5.ins k (.inr (.inr (by rw [HM1.out]; exact hk)))
  obtain ⟨a3, c3, W6, hr6, q1, q2, q3⟩ := app_kids_any kB kR (by omega)
  obtain ⟨m3, hm3⟩ : ∃ m3, m3 = m1 + m2 := ⟨_, rfl⟩
  rw [← hm3] at hr6 q1 q3
  have hS6 : SK2 dg rg (.slice ka1 m1 kc1) (.slice rk m2 rkc) W6 := ⟨q2.cell (fun h => h3.2.1 _ h rfl) hS.1, q2.cell (fun h => hBR5 _ (howB _ h) hrR) hS.2⟩
  have hset := rB5.setK (w1 := W6) (kv' := .slice a3 m3 c3) (gs' := kse.map Kd.g ++ ksr.map Kd.g) (by rw [show (kse.map Kd.g ++ ksr.map Kd.g).length = m3 by rw [List.length_append, List.length_map, List.length_map, HM1.out, HM2.out, hm3]]; exact q1) (by rw [HM1.out]; exact q2) (by rw [HM1.out]; exact q3)
  obtain ⟨W7, hW7⟩ : ∃ W7, W7 = W6.setCell ⟨dg, 2, none⟩ (.slice a3 m3 c3) := ⟨_, rfl⟩
  rw [← hW7] at hset
  obtain ⟨rB7, F7, z1, z2⟩ := hset
  rw [HM1.out] at z1
  have HM3 := hide hm3
  have HW7 := hide hW7
  clear hm3 hW7 q1 q2 q3 kB kR h3 howB rR
  refine wpAnyK_one (i := 9) (by kernel_rfl) rfl rfl ?_
  refine wp_append_to (.tmp 45) (.tmp 49) 76 rfl (some 50) rfl 76 rfl _ _ rfl rfl _ W6 hr6 ?_
  simp only [Act.put, List.setIfInBounds_toArray, List.set_cons_zero, List.set_cons_succ]
  refine ⟨fun _ => hS6, ?_⟩
  clear hS hS6 hr6
  refine wpAnyK_one (i := 10) (by kernel_rfl) rfl rfl ?_
  go_simp
  refine wpAnyK_one (i := 11) (by kernel_rfl) rfl rfl ?_
  go_simp
  refine wpAnyK_one (i := 12) (by kernel_rfl) rfl rfl ?_
  go_simp
  rw [← HW7.out]
  refine wpAnyK_done (by kernel_rfl) ?_ _
  clear HW7 z1 z2
  have hAe := rA.lt
  replace rA := rA.fr F7 hAB5
  obtain ⟨SB7, hSB7⟩ : ∃ SB7 : Nat → Prop, SB7 = fun k => SB5 k ∨ (We.heap.size ≤ k ∧ k < W7.heap.size) := ⟨_, rfl⟩
  rw [← hSB7] at rB7
  have hse := HW5e.out.size
  have hs5 := HF5.out.size
  have hB7 : ∀ k, SB7 k → SB k ∨ W1.heap.size ≤ k := fun k hk => by
    rw [hSB7] at hk
    rcases hk with hk | hk
    · exact hB5 k hk
    · exact .inr (by omega)
  have hAB7 : ∀ k, SA k → ¬ SB7 k := fun k ha hb => by
    rw [hSB7] at hb
    rcases hb with hb | hb
    · exact hAB5 k ha hb
    · have := hAe k ha; omega
  have HF7 : Hid (Fr W1 W7 (fun k => SA k ∨ SB k ∨ W1.heap.size ≤ k)) := hide ((HF5.out.two (HW5e.out.mono (fun _ _ h => h.elim))).two (F7.mono (fun k _ h => .inr (hB5 k h))))
  clear hAe hSB7 F7 hse hs5 hAB5 hBR5 rB5 hB5 hAR
  have xA := rA.cells.2.1
  rw [HLN.out] at xA
  obtain ⟨n5, hn5⟩ : ∃ n5, n5 = n - (i1 - i) := ⟨_, rfl⟩
  have hi1n : i1 = i + 1 := HI1.out
  have HDI := hide (deleteI (w := W7) (.slice (some ⟨gl, 0, none⟩) n lc) n (encI L) (by have h := rA.row; rw [HLN.out] at h; exact h) (encI_one L) i i1 n5 (by omega) (by omega) (by omega) hn5)
  have hlt5 : (L.take i ++ L.drop (i + 1)).length = n5 := by rw [List.length_append, List.length_take, List.length_drop, HLN.out]; omega
  have he5 : (encI L).take (i * 2) ++ (encI L).drop (i1 * 2) = encI (L.take i ++ L.drop (i + 1)) := by rw [encI_take, encI_drop, ← encI_append, hi1n]
  have HL5 := hide hlt5
  have HE5 := hide he5
  obtain ⟨i2, hi2⟩ : ∃ i2, i2 = i + 2 := ⟨_, rfl⟩
  have hi2i : (i : Int) + 2 = (i2 : Int) := by omega
  have hi2m : i2 ≤ m := by omega
  have hi12 : i1 < i2 := by omega
  have HI2' := hide hi2
  clear hlt5 he5 hn5 hi1n hi2
  go_wp2_with fail
  refine HDI.out.mono ?_
  rintro en V8 ⟨v8, rfl, hr8, hb8, g8⟩
  obtain ⟨a8, c8, rfl⟩ := shape_n hr8
  rw [HE5.out] at hr8
  have hset := rA.setL (w1 := V8) (lv' := .slice a8 n5 c8) (L' := L.take i ++ L.drop (i + 1)) (by rw [HL5.out]; exact hr8) (by rw [HLN.out]; exact g8) (.inl (by rw [HLN.out]; exact hb8))
  obtain ⟨W8, hW8⟩ : ∃ W8, W8 = V8.setCell ⟨pg, 1, none⟩ (.slice a8 n5 c8) := ⟨_, rfl⟩
  rw [← hW8] at hset
  obtain ⟨rA8, F8, z1, z2⟩ := hset
  rw [HLN.out] at z1
  have hB8lt := rB7.lt
  have rB8 := rB7.fr F8 (fun k hb ha => hAB7 k ha hb)
  have hs7 := HF7.out.size
  obtain ⟨SA8, hSA8⟩ : ∃ SA8 : Nat → Prop, SA8 = fun k => SA k ∨ (W7.heap.size ≤ k ∧ k < W8.heap.size) := ⟨_, rfl⟩
  rw [← hSA8] at rA8
  have hA8 : ∀ k, SA8 k → SA k ∨ W1.heap.size ≤ k := fun k hk => by
    rw [hSA8] at hk
    rcases hk with hk | hk
    · exact .inl hk
    · exact .inr (by omega)
  have hAB8 : ∀ k, SA8 k → ¬ SB7 k := fun k ha hb => by
    rw [hSA8] at ha
    rcases ha with ha | ha
    · exact hAB7 k ha hb
    · have := hB8lt k hb; omega
  have HF8 : Hid (Fr W1 W8 (fun k => SA k ∨ SB k ∨ W1.heap.size ≤ k)) := hide (HF7.out.two (F8.mono (fun k _ h => .inl h)))
  have HW8 := hide hW8
  clear hW8 hSA8 hr8 hb8 g8 rA rB7 F8 hs7 hB8lt hAB7 HDI xA
  have xK := rA8.cells.2.2
  rw [HM.out] at xK
  obtain ⟨m5, hm5⟩ : ∃ m5, m5 = m - (i2 - i1) := ⟨_, rfl⟩
  have hlg : ((ks.set i d).map Kd.g).length = m := by rw [List.length_map, List.length_set]; exact HM.out
  have HDK := hide (deleteK (w := W8) (.slice (some ⟨gk, 0, none⟩) m kc') m (pts ((ks.set i d).map Kd.g)) (by have h := rA8.krow; rw [hlg, HM.out] at h; exact h) (pts_one _) i1 i2 m5 hi12 hi2m (by omega) hm5)
  have hl5 : (((ks.set i d).map Kd.g).take (i + 1) ++ ((ks.set i d).map Kd.g).drop (i + 2)).length = m5 := by rw [List.length_append, List.length_take, List.length_drop, hlg, hm5, HI2'.out, HI1.out]; have := HI1.out; omega
  have he5 : (pts ((ks.set i d).map Kd.g)).take (i1 * 1) ++ (pts ((ks.set i d).map Kd.g)).drop (i2 * 1) = pts (((ks.set i d).map Kd.g).take (i + 1) ++ ((ks.set i d).map Kd.g).drop (i + 2)) := by rw [pts_take, pts_drop, HI1.out, HI2'.out]; unfold pts; rw [← List.map_append]
  have HL6 := hide hl5
  have HE6 := hide he5
  clear hm5 hlg hl5 he5
  go_wp2_with (rw [← HW8.out]; clear HW8)
  clear z1 z2
  refine HDK.out.mono ?_
  rintro en V9 ⟨v9, rfl, hr9, hb9, g9⟩
  obtain ⟨a9, c9, rfl⟩ := shape_n hr9
  rw [HE6.out] at hr9
  have hset := rA8.setK (w1 := V9) (kv' := .slice a9 m5 c9) (gs' := ((ks.set i d).map Kd.g).take (i + 1) ++ ((ks.set i d).map Kd.g).drop (i + 2)) (by rw [HL6.out]; exact hr9) (by rw [HM.out]; exact g9) (.inl (by rw [HM.out]; exact hb9))
  obtain ⟨W9, hW9⟩ : ∃ W9, W9 = V9.setCell ⟨pg, 2, none⟩ (.slice a9 m5 c9) := ⟨_, rfl⟩
  rw [← hW9] at hset
  obtain ⟨rA9, F9, z1, z2⟩ := hset
  rw [HM.out] at z1
  have hB9lt := rB8.lt
  have rB9 := rB8.fr F9 (fun k hb ha => hAB8 k ha hb)
  have hs8 := HF8.out.size
  obtain ⟨SA9, hSA9⟩ : ∃ SA9 : Nat → Prop, SA9 = fun k => SA8 k ∨ (W8.heap.size ≤ k ∧ k < W9.heap.size) := ⟨_, rfl⟩
  rw [← hSA9] at rA9
  have hA9 : ∀ k, SA9 k → SA k ∨ W1.heap.size ≤ k := fun k hk => by
    rw [hSA9] at hk
    rcases hk with hk | hk
    · exact hA8 k hk
    · exact .inr (by omega)
  have hAB9 : ∀ k, SA9 k → ¬ SB7 k := fun k ha hb => by
    rw [hSA9] at ha
    rcases ha with ha | ha
    · exact hAB8 k ha hb
    · have := hB9lt k hb; omega
  have f9 : Fr W1 W9 (fun k => SA k ∨ SB k ∨ W1.heap.size ≤ k) := HF8.out.two (F9.mono (fun k _ h => (hA8 k h).imp id .inr))
  have HW9 := hide hW9
  clear hW9 hSA9 hr9 hb9 g9 rA8 rB8 F9 hs8 hB9lt hAB8 HDK xK
  go_wp2_with (rw [← HW9.out]; clear HW9)
  clear z1 z2
  have hY := HN.out.ky rfl
  rw [HPG.out] at rA9
  have HRES := merge_fin (w := w) HN1.out HK1.out HND.out HKD1.out HI2.out HNR1.out HKR1.out HKL.out HLE.out HLR.out HMK.out ho2 HDG.out HF1.out rA9 rB9 rfl rfl (by simp) rfl hA9 hB7 hAB9 HSA.out.1 (HSA.out.2.1 trivial) HSA.out.2.2 HSB.out.1 (HSB.out.2.1 trivial) HSB.out.2.2 HX1.out HY1.out ((HFD.out.trans Hf1.out).mono (fun k _ hz => hz.elim (fun h => h.elim) (hY k))) f9
  go_end0
  exact HRES
end Go.Proofs.YtigkinakhijfoaaGreat
