/- halve: a full kid is cut in two. -/
import Derived.Test.YtigkinakhijfoaaGreatPa
namespace Go.Proofs.YtigkinakhijfoaaGreat
open Go.RowKit
set_option maxRecDepth 100000
set_option linter.unusedVariables false
set_option linter.unusedSimpArgs false

set_option maxHeartbeats 16000000 in
theorem halve_any {o : Nat} {cur : Int} {h lo : Nat} {w : World} {p e : Kd} {lv kv : Value} {L : List It} {ks : List Kd} {t' : Int} {le ke : Value} {Le : List It} {kse : List Kd} {tb root : Nat} {cnt : Int} (hT : TreeB w tb o cnt root cur) (htb : ¬ p.X tb) (hN : NodeV o cur lo w p cur lv kv L ks) (hK : KOk o cur (h + 1) w L ks) {i : Nat} (hi : ks[i]? = some e) (hNe : NodeV o cur (o - 1) w e t' le ke Le kse) (hKe : KOk o cur h w Le kse) (hnf : L.length < 2 * o - 1) (hfull : Le.length = 2 * o - 1) (ho2 : 2 ≤ o) (ho : o ≤ 64) :
    Calls Tryz.prog 53 #[.pointer (some ⟨tb, 0, none⟩), .pointer (some ⟨p.g, 0, none⟩), .int .i64 (i : Int)] w (HalvQ o cur h lo L i w p) := by
  obtain ⟨mid, hmid⟩ : ∃ mid, o = mid + 1 := ⟨o - 1, by omega⟩
  have hmi : (o : Int) - 1 = (mid : Int) := by omega
  have hmi2 : (mid : Int) + 1 = (o : Int) := by omega
  have hil : i < ks.length := (List.getElem?_eq_some_iff.1 hi).1
  have hkl : ks.length = L.length + 1 := hK.1
  have HKD : Hid (∀ V, Fr w V (fun _ => False) → Calls Tryz.prog 51 #[.pointer (some ⟨tb, 0, none⟩), .pointer (some ⟨p.g, 0, none⟩), .int .i64 (i : Int)] V (KidQ o cur h lo lv kv L ks i Le kse V p e)) := hide (fun V hf => kid_any (hT.fr hf (fun h => h)) (hN.fr hf (fun _ _ h => h)) (hK.fr hf (fun _ _ _ _ h => h)) hi (hNe.fr hf (fun _ _ h => h)) (hKe.fr hf (fun _ _ _ _ h => h)) ho)
  have y0 := hT.cells.1
  obtain ⟨pg, hpg⟩ : ∃ pg, pg = p.g := ⟨_, rfl⟩
  rw [← hpg] at HKD ⊢
  have HT := hide hT
  have HTB := hide htb
  have HN := hide hN
  have HK := hide hK
  have HI := hide hi
  have HPG := hide hpg
  have HFU := hide hfull
  have HNF := hide hnf
  have HIL := hide hil
  have HKL := hide hkl
  have HMD := hide hmid
  have hmb : mid ≤ 63 := by omega
  clear hT htb hN hK hi hNe hKe hpg hfull hnf hil hkl hmid
  go_enter Tryz.func53, Tryz.ntmps53
  go_wp2_with fail
  refine wp_region_K (fun _ => true) (fun U : World => U.cell? ⟨tb, 0, none⟩ = some (.int .i64 (o : Int))) (by kernel_rfl) ?_
  have fd := Fr.drew w (fun _ => False)
  have hS : (fun U : World => U.cell? ⟨tb, 0, none⟩ = some (.int .i64 (o : Int))) w.drew := fd.cell (fun h => h) y0
  refine wpAnyK_takeTo 0 (some 9) (.pointer (some ⟨tb, 0, none⟩)) [3, 10, 11] rfl rfl (by kernel_rfl) (by kernel_rfl) (by kernel_rfl) (by kernel_rfl) (fun _ _ _ h => h) hS (Or.inl ⟨rfl, fun w1 hw1 => by have hq : w1.cell? ⟨tb, 0, none⟩ = some (.int .i64 (o : Int)) := hw1; go_simp <;> try (rw [wrap_nat (by omega)])⟩) ?_
  simp only [Act.put, List.setIfInBounds_toArray, List.set_cons_zero, List.set_cons_succ]
  refine wpAnyK_takeTo 1 (some 10) (.pointer (some ⟨pg, 0, none⟩)) [3, 10, 11] rfl rfl (by kernel_rfl) (by kernel_rfl) (by kernel_rfl) (by kernel_rfl) (fun _ _ _ h => h) hS (Or.inl ⟨rfl, fun w1 hw1 => by have hq : w1.cell? ⟨tb, 0, none⟩ = some (.int .i64 (o : Int)) := hw1; go_simp <;> try (rw [wrap_nat (by omega)])⟩) ?_
  simp only [Act.put, List.setIfInBounds_toArray, List.set_cons_zero, List.set_cons_succ]
  refine wpAnyK_takeTo 2 (some 11) (.int .i64 (i : Int)) [3, 10, 11] rfl rfl (by kernel_rfl) (by kernel_rfl) (by kernel_rfl) (by kernel_rfl) (fun _ _ _ h => h) hS (Or.inl ⟨rfl, fun w1 hw1 => by have hq : w1.cell? ⟨tb, 0, none⟩ = some (.int .i64 (o : Int)) := hw1; go_simp <;> try (rw [wrap_nat (by omega)])⟩) ?_
  simp only [Act.put, List.setIfInBounds_toArray, List.set_cons_zero, List.set_cons_succ]
  refine wpAnyK_takeTo 4 (some 13) (.pointer (some ⟨tb, 0, none⟩)) [5, 6, 7, 8, 9, 11] rfl rfl (by kernel_rfl) (by kernel_rfl) (by kernel_rfl) (by kernel_rfl) (fun _ _ _ h => h) hS (Or.inl ⟨rfl, fun w1 hw1 => by have hq : w1.cell? ⟨tb, 0, none⟩ = some (.int .i64 (o : Int)) := hw1; go_simp <;> try (rw [wrap_nat (by omega)])⟩) ?_
  simp only [Act.put, List.setIfInBounds_toArray, List.set_cons_zero, List.set_cons_succ]
  refine wpAnyK_takeTo 5 (some 14) (.pointer (some ⟨tb, 0, none⟩)) [6, 7, 8, 9, 11] rfl rfl (by kernel_rfl) (by kernel_rfl) (by kernel_rfl) (by kernel_rfl) (fun _ _ _ h => h) hS (Or.inl ⟨rfl, fun w1 hw1 => by have hq : w1.cell? ⟨tb, 0, none⟩ = some (.int .i64 (o : Int)) := hw1; go_simp <;> try (rw [wrap_nat (by omega)])⟩) ?_
  simp only [Act.put, List.setIfInBounds_toArray, List.set_cons_zero, List.set_cons_succ]
  refine wpAnyK_takeTo 6 (some 15) (.pointer (some ⟨tb, 0, none⟩)) [7, 8, 9, 11] rfl rfl (by kernel_rfl) (by kernel_rfl) (by kernel_rfl) (by kernel_rfl) (fun _ _ _ h => h) hS (Or.inl ⟨rfl, fun w1 hw1 => by have hq : w1.cell? ⟨tb, 0, none⟩ = some (.int .i64 (o : Int)) := hw1; go_simp <;> try (rw [wrap_nat (by omega)])⟩) ?_
  simp only [Act.put, List.setIfInBounds_toArray, List.set_cons_zero, List.set_cons_succ]
  refine wpAnyK_takeTo 7 (some 16) (.pointer (some ⟨tb, 0, none⟩)) [8, 9, 11] rfl rfl (by kernel_rfl) (by kernel_rfl) (by kernel_rfl) (by kernel_rfl) (fun _ _ _ h => h) hS (Or.inl ⟨rfl, fun w1 hw1 => by have hq : w1.cell? ⟨tb, 0, none⟩ = some (.int .i64 (o : Int)) := hw1; go_simp <;> try (rw [wrap_nat (by omega)])⟩) ?_
  simp only [Act.put, List.setIfInBounds_toArray, List.set_cons_zero, List.set_cons_succ]
  refine wpAnyK_takeTo 8 (some 17) (.int .i64 (o : Int)) [9, 11] rfl rfl (by kernel_rfl) (by kernel_rfl) (by kernel_rfl) (by kernel_rfl) (fun _ _ _ h => h) hS (Or.inl ⟨rfl, fun w1 hw1 => by have hq : w1.cell? ⟨tb, 0, none⟩ = some (.int .i64 (o : Int)) := hw1; go_simp <;> try (rw [wrap_nat (by omega)])⟩) ?_
  simp only [Act.put, List.setIfInBounds_toArray, List.set_cons_zero, List.set_cons_succ]
  refine wpAnyK_takeTo 9 (some 18) (.int .i64 (mid : Int)) [11] rfl rfl (by kernel_rfl) (by kernel_rfl) (by kernel_rfl) (by kernel_rfl) (fun _ _ _ h => h) hS (Or.inl ⟨rfl, fun w1 hw1 => by have hq : w1.cell? ⟨tb, 0, none⟩ = some (.int .i64 (o : Int)) := hw1; go_simp <;> try (rw [wrap_nat (by omega)])⟩) ?_
  simp only [Act.put, List.setIfInBounds_toArray, List.set_cons_zero, List.set_cons_succ]
  refine wpAnyK_one (i := 3) (by kernel_rfl) rfl rfl ?_
  refine wp_call_to (some 12) rfl 51 #[.pointer (some ⟨tb, 0, none⟩), .pointer (some ⟨pg, 0, none⟩), .int .i64 (i : Int)] (by go_simp) (HKD.out _ fd) ?_
  rintro en W1 ⟨p1, d, lb, kb, rfl, hg1, hF1, hn1, hk1, hnd, hkd, hFd, hX1, hY1, hXd, hYd, f1⟩
  have htb1 : ¬ kv.ownBlock = some tb := fun h => HTB.out (HN.out.kx tb h)
  replace hS : W1.cell? ⟨tb, 0, none⟩ = some (.int .i64 (o : Int)) := f1.cell htb1 hS
  refine ⟨_, rfl, fun _ => hS, ?_⟩
  simp only [Act.put, List.setIfInBounds_toArray, List.set_cons_zero, List.set_cons_succ]
  obtain ⟨dg, hdg⟩ : ∃ dg, dg = d.g := ⟨_, rfl⟩
  rw [← hdg]
  refine wpAnyK_takeTo 10 (some 6) (.pointer (some ⟨dg, 0, none⟩)) [11] rfl rfl (by kernel_rfl) (by kernel_rfl) (by kernel_rfl) (by kernel_rfl) (fun _ _ _ h => h) hS (Or.inl ⟨rfl, fun w1 hw1 => by go_simp⟩) ?_
  simp only [Act.put, List.setIfInBounds_toArray, List.set_cons_zero, List.set_cons_succ]
  refine wpAnyK_takeTo 11 (some 7) (.int .i64 (mid : Int)) [] rfl rfl (by kernel_rfl) (by kernel_rfl) (by kernel_rfl) (by kernel_rfl) (fun _ _ _ h => h) hS (Or.inl ⟨rfl, fun w1 hw1 => by go_simp⟩) ?_
  simp only [Act.put, List.setIfInBounds_toArray, List.set_cons_zero, List.set_cons_succ]
  refine wpAnyK_done (by kernel_rfl) ?_ _
  clear hS y0
  have FW1 : Fr w W1 (fun k => kv.ownBlock = some k) := (fd.mono (fun _ _ h => h.elim)).two f1
  have hB1 := HT.out.fr FW1 htb1
  have hsz0 : w.drew.heap.size = w.heap.size := rfl
  rw [hsz0] at hX1 hY1 hXd hYd
  have hil := HIL.out
  have hd1 : (ks.set i d)[i]? = some d := by rw [List.getElem?_set, if_pos rfl, if_pos hil]
  have hdm : d ∈ ks.set i d := List.mem_of_getElem? hd1
  have rA := hn1.toNodeP.raw
  have rB := hnd.toNodeP.raw
  have hpg1 : p1.g = pg := by rw [hg1, HPG.out]
  rw [hpg1] at rA
  rw [← hdg] at rB
  obtain ⟨SA, hSA⟩ : ∃ SA, SA = SetOf pg lv kv := ⟨_, rfl⟩
  obtain ⟨SB, hSB⟩ : ∃ SB, SB = SetOf dg lb kb := ⟨_, rfl⟩
  have hAX : ∀ k, SA k → p1.X k := fun k hk => by rw [hSA, ← hpg1] at hk; exact hn1.setX.1 k hk
  have hAY : ∀ k, SA k → p1.Y k := fun k hk => by rw [hSA, ← hpg1] at hk; exact hn1.setX.2.1 rfl k hk
  have hAK : ∀ x ∈ ks.set i d, ∀ k, x.X k → ¬ SA k := fun x hx k hk => by rw [hSA, ← hpg1]; exact hn1.setX.2.2 x hx k hk
  have hBX : ∀ k, SB k → d.X k := fun k hk => by rw [hSB, hdg] at hk; exact hnd.setX.1 k hk
  have hBY : ∀ k, SB k → d.Y k := fun k hk => by rw [hSB, hdg] at hk; exact hnd.setX.2.1 rfl k hk
  have hBK : ∀ x ∈ kse, ∀ k, x.X k → ¬ SB k := fun x hx k hk => by rw [hSB, hdg]; exact hnd.setX.2.2 x hx k hk
  rw [← hSA] at rA
  rw [← hSB] at rB
  clear hSA hSB
  have hAB : ∀ k, SA k → ¬ SB k := fun k ha hb => hAK d hdm k (hBX k hb) ha
  obtain ⟨gs, hgs⟩ : ∃ gs, gs = (ks.set i d).map Kd.g := ⟨_, rfl⟩
  obtain ⟨gse, hgse⟩ : ∃ gse, gse = kse.map Kd.g := ⟨_, rfl⟩
  rw [← hgs] at rA
  rw [← hgse] at rB
  have htA : ¬ SA tb := fun hk => by
    rcases hX1 tb (hAX tb hk) with h | h
    · exact HTB.out h
    · have := (Array.getElem?_eq_some_iff.1 HT.out.box).1; omega
  have htB : ¬ SB tb := fun hk => by
    rcases hXd tb (hBX tb hk) with h | h
    · exact HTB.out (HN.out.sx e (List.mem_of_getElem? HI.out) tb h)
    · have := (Array.getElem?_eq_some_iff.1 HT.out.box).1; omega
  have hLel : Le.length = 2 * o - 1 := HFU.out
  obtain ⟨nE, hnE⟩ : ∃ nE, nE = Le.length := ⟨_, rfl⟩
  obtain ⟨lba, cE, kba, cK, rfl, rfl⟩ := rB.shape
  obtain ⟨gb, rfl⟩ : ∃ gb, lba = some ⟨gb, 0, none⟩ := by
    obtain ⟨g, e1, _⟩ := row_cell rB.row (encI_get Le 0 _ (List.getElem?_eq_getElem (by omega))).1
    exact ⟨g, e1⟩
  have hcE : Le.length ≤ cE := by
    rcases rB.row.2 with ⟨e1, _⟩ | ⟨g, cap, cr, e1, _, _, hc, _⟩
    · cases e1
    · cases e1; exact hc
  rw [← hnE] at hcE hLel
  have hx1 := rB.cells.2.1
  rw [← hnE] at hx1
  have hx2 := rB.cells.2.2
  have hy3 := hB1.cells.2.2.2
  obtain ⟨nR, hnR⟩ : ∃ nR, nE - o = nR := ⟨_, rfl⟩
  have HCL : Hid (∀ V, Fr W1 V (fun _ => False) → Calls Tryz.prog 87 #[.slice (some ⟨gb, o * 2, none⟩) nR (cE - o)] V fun en w' => ∃ v, en = .returned v ∧ w'.ownsRow 0 106 2 v nR (encI (Le.drop o)) ∧ (∀ k, v.ownBlock = some k → V.heap.size ≤ k) ∧ Fr V w' (fun _ => False)) := hide (fun V hf => by
    refine cloneI _ nR (cE - o) (encI (Le.drop o)) (by rw [encI_length, List.length_drop]; omega) (fun h => by cases h) (fun x hx j u hu => ?_) (encI_one _) (by omega)
    cases hx
    rw [← encI_drop, List.getElem?_drop] at hu
    obtain ⟨g, e1, c1⟩ := row_cell rB.row hu
    cases e1
    rw [Addr.add_mid]
    exact hf.cell (fun h => h) c1)
  have hoc : o ≤ cE := by omega
  have hon : o ≤ nE := by omega
  have hne : ¬ (cE = o) := by omega
  have HNR := hide hnR
  have HNE := hide hnE
  have HLEL := hide hLel
  have hnb : nE ≤ 127 := by omega
  have HDG := hide hdg
  have HGS := hide hgs
  have HGSE := hide hgse
  have HPG1 := hide hpg1
  clear hnE hLel hdg hgs hgse hpg1
  go_wp2_with fail
  refine wp_region_K (fun z => decide (z < 13)) (SOwn tb dg cur (.slice (some ⟨gb, 0, none⟩) nE cE) (.slice kba gse.length cK)) (by kernel_rfl) ?_
  have F1d := Fr.drew W1 (fun _ => False)
  have hS := (show SOwn tb dg cur (.slice (some ⟨gb, 0, none⟩) nE cE) (.slice kba gse.length cK) W1 from ⟨hy3, hx1, hx2⟩).fr F1d
  refine wpAnyK_takeTo 0 (some 19) (.pointer (some ⟨tb, 0, none⟩)) [1, 2, 3, 12, 13, 14] rfl rfl (by kernel_rfl) (by kernel_rfl) (by kernel_rfl) (by kernel_rfl) (fun _ _ _ h => h) hS (Or.inl ⟨rfl, fun w1 hw1 => by obtain ⟨q0, q1, q2⟩ := hw1; go_simp <;> try (rw [wrap_nat (by omega)])⟩) ?_
  simp only [Act.put, List.setIfInBounds_toArray, List.set_cons_zero, List.set_cons_succ]
  refine wpAnyK_takeTo 1 (some 20) (.pointer (some ⟨tb, 0, none⟩)) [2, 3, 12, 13, 14] rfl rfl (by kernel_rfl) (by kernel_rfl) (by kernel_rfl) (by kernel_rfl) (fun _ _ _ h => h) hS (Or.inl ⟨rfl, fun w1 hw1 => by obtain ⟨q0, q1, q2⟩ := hw1; go_simp <;> try (rw [wrap_nat (by omega)])⟩) ?_
  simp only [Act.put, List.setIfInBounds_toArray, List.set_cons_zero, List.set_cons_succ]
  refine wpAnyK_takeTo 2 (some 21) (.pointer (some ⟨tb, 3, none⟩)) [3, 12, 13, 14] rfl rfl (by kernel_rfl) (by kernel_rfl) (by kernel_rfl) (by kernel_rfl) (fun _ _ _ h => h) hS (Or.inl ⟨rfl, fun w1 hw1 => by obtain ⟨q0, q1, q2⟩ := hw1; go_simp <;> try (rw [wrap_nat (by omega)])⟩) ?_
  simp only [Act.put, List.setIfInBounds_toArray, List.set_cons_zero, List.set_cons_succ]
  refine wpAnyK_takeTo 3 (some 22) (.int .i64 cur) [12, 13, 14] rfl rfl (by kernel_rfl) (by kernel_rfl) (by kernel_rfl) (by kernel_rfl) (fun _ _ _ h => h) hS (Or.inl ⟨rfl, fun w1 hw1 => by obtain ⟨q0, q1, q2⟩ := hw1; go_simp <;> try (rw [wrap_nat (by omega)])⟩) ?_
  simp only [Act.put, List.setIfInBounds_toArray, List.set_cons_zero, List.set_cons_succ]
  refine wpAnyK_takeTo 4 (some 23) (.pointer (some ⟨dg, 0, none⟩)) [5, 6, 7, 10, 11, 12, 13, 14] rfl rfl (by kernel_rfl) (by kernel_rfl) (by kernel_rfl) (by kernel_rfl) (fun _ _ _ h => h) hS (Or.inl ⟨rfl, fun w1 hw1 => by obtain ⟨q0, q1, q2⟩ := hw1; go_simp <;> try (rw [wrap_nat (by omega)])⟩) ?_
  simp only [Act.put, List.setIfInBounds_toArray, List.set_cons_zero, List.set_cons_succ]
  refine wpAnyK_takeTo 5 (some 24) (.pointer (some ⟨dg, 0, none⟩)) [6, 7, 10, 11, 12, 13, 14] rfl rfl (by kernel_rfl) (by kernel_rfl) (by kernel_rfl) (by kernel_rfl) (fun _ _ _ h => h) hS (Or.inl ⟨rfl, fun w1 hw1 => by obtain ⟨q0, q1, q2⟩ := hw1; go_simp <;> try (rw [wrap_nat (by omega)])⟩) ?_
  simp only [Act.put, List.setIfInBounds_toArray, List.set_cons_zero, List.set_cons_succ]
  refine wpAnyK_takeTo 6 (some 25) (.pointer (some ⟨dg, 1, none⟩)) [7, 10, 11, 12, 13, 14] rfl rfl (by kernel_rfl) (by kernel_rfl) (by kernel_rfl) (by kernel_rfl) (fun _ _ _ h => h) hS (Or.inl ⟨rfl, fun w1 hw1 => by obtain ⟨q0, q1, q2⟩ := hw1; go_simp <;> try (rw [wrap_nat (by omega)])⟩) ?_
  simp only [Act.put, List.setIfInBounds_toArray, List.set_cons_zero, List.set_cons_succ]
  refine wpAnyK_takeTo 7 (some 26) (.slice (some ⟨gb, 0, none⟩) nE cE) [10, 11, 12, 13, 14] rfl rfl (by kernel_rfl) (by kernel_rfl) (by kernel_rfl) (by kernel_rfl) (fun _ _ _ h => h) hS (Or.inl ⟨rfl, fun w1 hw1 => by obtain ⟨q0, q1, q2⟩ := hw1; go_simp <;> try (rw [wrap_nat (by omega)])⟩) ?_
  simp only [Act.put, List.setIfInBounds_toArray, List.set_cons_zero, List.set_cons_succ]
  refine wpAnyK_takeTo 8 (some 27) (.int .i64 (mid : Int)) [9, 10, 11, 12, 13, 14] rfl rfl (by kernel_rfl) (by kernel_rfl) (by kernel_rfl) (by kernel_rfl) (fun _ _ _ h => h) hS (Or.inl ⟨rfl, fun w1 hw1 => by obtain ⟨q0, q1, q2⟩ := hw1; go_simp <;> try (rw [wrap_nat (by omega)])⟩) ?_
  simp only [Act.put, List.setIfInBounds_toArray, List.set_cons_zero, List.set_cons_succ]
  refine wpAnyK_takeTo 9 (some 28) (.int .i64 (o : Int)) [10, 11, 12, 13, 14] rfl rfl (by kernel_rfl) (by kernel_rfl) (by kernel_rfl) (by kernel_rfl) (fun _ _ _ h => h) hS (Or.inl ⟨rfl, fun w1 hw1 => by obtain ⟨q0, q1, q2⟩ := hw1; go_simp <;> try (rw [wrap_nat (by omega)])⟩) ?_
  simp only [Act.put, List.setIfInBounds_toArray, List.set_cons_zero, List.set_cons_succ]
  refine wpAnyK_takeTo 10 (some 29) (.slice (some ⟨gb, o * 2, none⟩) nR (cE - o)) [11, 12, 13, 14] rfl rfl (by kernel_rfl) (by kernel_rfl) (by kernel_rfl) (by kernel_rfl) (fun _ _ _ h => h) hS (Or.inl ⟨rfl, fun w1 hw1 => by obtain ⟨q0, q1, q2⟩ := hw1; go_simp <;> try (rw [wrap_nat (by omega)])⟩) ?_
  simp only [Act.put, List.setIfInBounds_toArray, List.set_cons_zero, List.set_cons_succ]
  refine wpAnyK_one (i := 11) (by kernel_rfl) rfl rfl ?_
  refine wp_call_to (some 30) rfl 87 #[.slice (some ⟨gb, o * 2, none⟩) nR (cE - o)] (by go_simp) (HCL.out _ F1d) ?_
  rintro en V1 ⟨v1, rfl, hr1, hf1, g1⟩
  clear hnR
  obtain ⟨a1, c1, rfl⟩ := shape_n hr1
  replace hS := hS.fr g1
  refine ⟨_, rfl, fun _ => hS, ?_⟩
  simp only [Act.put, List.setIfInBounds_toArray, List.set_cons_zero, List.set_cons_succ]
  refine wpAnyK_takeTo 12 (some 31) (.agg #[.int .i64 cur, .slice a1 nR c1, .slice none 0 0]) [13, 14] rfl rfl (by kernel_rfl) (by kernel_rfl) (by kernel_rfl) (by kernel_rfl) (fun _ _ _ h => h) hS (Or.inl ⟨rfl, fun w1 hw1 => by obtain ⟨q0, q1, q2⟩ := hw1; go_simp⟩) ?_
  simp only [Act.put, List.setIfInBounds_toArray, List.set_cons_zero, List.set_cons_succ]
  have FA := Fr.alloc V1 (.cells #[.int .i64 cur, .slice a1 nR c1, .slice none 0 0] 78) (fun _ => False)
  obtain ⟨B, hB⟩ : ∃ B, B = V1.heap.size := ⟨_, rfl⟩
  obtain ⟨W2, hW2⟩ : ∃ W2, W2 = V1.alloc (.cells #[.int .i64 cur, .slice a1 nR c1, .slice none 0 0] 78) := ⟨_, rfl⟩
  have b2 : W2.heap[B]? = some (.cells #[.int .i64 cur, .slice a1 nR c1, .slice none 0 0] 78 (0, 0)) := by rw [hW2, hB]; exact heap_alloc_new V1 _
  rw [← hW2] at FA
  have F2 : Fr W1 W2 (fun _ => False) := (F1d.two g1).two FA
  refine wpAnyK_one (i := 13) (by kernel_rfl) rfl rfl ?_
  go_simp
  rw [← hW2, ← hB]
  have HBB := hide hB
  clear hB hW2
  refine wpAnyK_one (i := 14) (by kernel_rfl) rfl rfl ?_
  go_simp
  refine wpAnyK_done (by kernel_rfl) ?_ _
  have hdl : (Le.drop o).length = nR := by rw [List.length_drop, ← HNE.out]; exact HNR.out
  have rC : Raw W2 B cur (.slice a1 nR c1) (.slice none 0 0) (Le.drop o) [] (fun k => W1.heap.size ≤ k ∧ k < W2.heap.size) := by
    have hz1 := F1d.size
    have hz2 := g1.size
    have hz3 := FA.size
    refine ⟨b2, by rw [hdl]; exact ownsRow_fr hr1 FA (fun _ _ h => h), World.ownsRow_nil W2 0 74 1, fun k hk => ?_, fun k hk => hk.2⟩
    rcases hk with rfl | hk | hk
    · exact ⟨by have := HBB.out; omega, (Array.getElem?_eq_some_iff.1 b2).1⟩
    · exact ⟨by have := hf1 k hk; omega, by have := ownsRow_lt hr1 hk; omega⟩
    · cases hk
  replace rA := rA.fr F2 (fun _ _ h => h)
  replace rB := rB.fr F2 (fun _ _ h => h)
  obtain ⟨SC, hSC⟩ : ∃ SC : Nat → Prop, SC = fun k => W1.heap.size ≤ k ∧ k < W2.heap.size := ⟨_, rfl⟩
  have hCge : ∀ k, SC k → W1.heap.size ≤ k := fun k hk => by rw [hSC] at hk; exact hk.1
  rw [← hSC] at rC
  clear hS HCL hx1 hx2 hy3 hr1 hf1 b2 FA g1 F1d hSC
  have HBX := hide (hB1.fr F2 (fun h => h))
  have HF2 := hide F2
  clear hB1 F2
  have hAC : ∀ k, SA k → ¬ SC k := fun k ha hc => by have := hCge k hc; have := hn1.xlt k (hAX k ha); omega
  have hBC : ∀ k, SB k → ¬ SC k := fun k ha hc => by have := hCge k hc; have := hnd.xlt k (hBX k ha); omega
  have HLA := hide (last_raw rB)
  go_wp2_with fail
  refine HLA.out.mono ?_
  rintro en W2' ⟨rfl, hww⟩
  rw [hww]
  clear HLA hww
  rcases hkd.len with ⟨hh0, hk0⟩ | ⟨hh0, hk0⟩
  · clear hh0
    have hgl : gse.length = 0 := by rw [HGSE.out, List.length_map]; exact hk0
    have hdz : decide (gse.length = 0) = true := decide_eq_true hgl
    rw [hdz]
    clear hdz
    have hks0 : kse = [] := List.eq_nil_of_length_eq_zero hk0
    have hgs0 : gse = [] := List.eq_nil_of_length_eq_zero hgl
    have HKS0 := hide hks0
    have HGS0 := hide hgs0
    clear hks0 hgs0 hgl
    have HF0 := hide (Fr.refl W2 (fun k => SA k ∨ SB k ∨ W1.heap.size ≤ k))
    have hB0 : ∀ k, SB k → SB k ∨ W1.heap.size ≤ k := fun k hk => .inl hk
    obtain ⟨la, lc, ka, kc', rfl, rfl⟩ := rA.shape
    obtain ⟨n, hn⟩ : ∃ n, L.length = n := ⟨_, rfl⟩
    obtain ⟨m, hm⟩ : ∃ m, gs.length = m := ⟨_, rfl⟩
    have hmn : m = n + 1 := by rw [← hm, HGS.out, List.length_map, List.length_set, HKL.out, hn]
    have hin : i ≤ n := by have := HKL.out; omega
    have hnb5 : n ≤ 127 := by have := HNF.out; omega
    have hmdE : mid < nE := by have := HLEL.out; omega
    obtain ⟨⟨mk, mv⟩, hmk⟩ : ∃ x, Le[mid]? = some x := ⟨_, List.getElem?_eq_getElem (by rw [← HNE.out]; exact hmdE)⟩
    obtain ⟨g5', e5, ci⟩ := row_cell rB.row (encI_get Le mid _ hmk).1
    obtain ⟨g6', e6, cj⟩ := row_cell rB.row (encI_get Le mid _ hmk).2
    cases e5
    cases e6
    dsimp only at ci cj
    have xA1 := rA.cells.2.1
    rw [hn] at xA1
    have xB1 := rB.cells.2.1
    rw [← HNE.out] at xB1
    have HMK := hide hmk
    have HNL := hide hn
    have HML := hide hm
    have HMN := hide hmn
    clear hn hm hmn hmk
    go_wp2_with fail
    refine wp_region_K (fun _ => true) (fun _ : World => True) (by kernel_rfl) ?_
    obtain ⟨Wd, hWd⟩ : ∃ Wd, Wd = W2.drew := ⟨_, rfl⟩
    have G5 : Fr W2 Wd (fun _ => False) := by rw [hWd]; exact Fr.drew _ _
    rw [← hWd]
    clear hWd
    have hS : (fun _ : World => True) Wd := trivial
    refine wpAnyK_takeTo 0 (some 62) (.pointer (some ⟨pg, 0, none⟩)) [15, 16, 17] rfl rfl (by kernel_rfl) (by kernel_rfl) (by kernel_rfl) (by kernel_rfl) (fun _ _ _ h => h) hS (Or.inl ⟨rfl, fun w1 hw1 => by go_simp⟩) ?_
    simp only [Act.put, List.setIfInBounds_toArray, List.set_cons_zero, List.set_cons_succ]
    clear hS
    refine wpAnyK_weak (S := fun U : World => Fr Wd U (fun _ => False)) (hold := fun z => decide (z < 14)) _ _ _ _ ?_
    have hS : (fun U : World => Fr Wd U (fun _ => False)) Wd := Fr.refl _ _
    have hSx : ∀ V, Fr Wd V (fun _ => False) → V.cell? ⟨pg, 1, none⟩ = some (.slice la n lc) ∧ V.cell? ⟨dg, 1, none⟩ = some (.slice (some ⟨gb, 0, none⟩) nE cE) ∧ V.cell? ⟨gb, mid * 2, none⟩ = some (.string mk) ∧ V.cell? ⟨gb, mid * 2 + 1, none⟩ = some (.int .i64 mv) ∧ True := fun V hV => by
      have hd := G5.two hV
      exact ⟨hd.cell (fun h => h) xA1, hd.cell (fun h => h) xB1, hd.cell (fun h => h) ci, hd.cell (fun h => h) cj, trivial⟩
    clear xA1 xB1 ci cj
    refine wpAnyK_takeTo 1 (some 63) (.pointer (some ⟨pg, 0, none⟩)) [2, 3, 4, 14, 15, 16, 17] rfl rfl (by kernel_rfl) (by kernel_rfl) (by kernel_rfl) (by kernel_rfl) (fun _ _ _ h => h) hS (Or.inl ⟨rfl, fun w1 hw1 => by obtain ⟨q0, q1, q2, q3, _⟩ := hSx _ hw1; go_simp⟩) ?_
    simp only [Act.put, List.setIfInBounds_toArray, List.set_cons_zero, List.set_cons_succ]
    refine wpAnyK_takeTo 2 (some 64) (.pointer (some ⟨pg, 0, none⟩)) [3, 4, 14, 15, 16, 17] rfl rfl (by kernel_rfl) (by kernel_rfl) (by kernel_rfl) (by kernel_rfl) (fun _ _ _ h => h) hS (Or.inl ⟨rfl, fun w1 hw1 => by obtain ⟨q0, q1, q2, q3, _⟩ := hSx _ hw1; go_simp⟩) ?_
    simp only [Act.put, List.setIfInBounds_toArray, List.set_cons_zero, List.set_cons_succ]
    refine wpAnyK_takeTo 3 (some 65) (.pointer (some ⟨pg, 1, none⟩)) [4, 14, 15, 16, 17] rfl rfl (by kernel_rfl) (by kernel_rfl) (by kernel_rfl) (by kernel_rfl) (fun _ _ _ h => h) hS (Or.inl ⟨rfl, fun w1 hw1 => by obtain ⟨q0, q1, q2, q3, _⟩ := hSx _ hw1; go_simp⟩) ?_
    simp only [Act.put, List.setIfInBounds_toArray, List.set_cons_zero, List.set_cons_succ]
    refine wpAnyK_takeTo 4 (some 66) (.slice la n lc) [14, 15, 16, 17] rfl rfl (by kernel_rfl) (by kernel_rfl) (by kernel_rfl) (by kernel_rfl) (fun _ _ _ h => h) hS (Or.inl ⟨rfl, fun w1 hw1 => by obtain ⟨q0, q1, q2, q3, _⟩ := hSx _ hw1; go_simp⟩) ?_
    simp only [Act.put, List.setIfInBounds_toArray, List.set_cons_zero, List.set_cons_succ]
    refine wpAnyK_takeTo 5 (some 67) (.int .i64 (i : Int)) [14, 15, 16, 17] rfl rfl (by kernel_rfl) (by kernel_rfl) (by kernel_rfl) (by kernel_rfl) (fun _ _ _ h => h) hS (Or.inl ⟨rfl, fun w1 hw1 => by obtain ⟨q0, q1, q2, q3, _⟩ := hSx _ hw1; go_simp⟩) ?_
    simp only [Act.put, List.setIfInBounds_toArray, List.set_cons_zero, List.set_cons_succ]
    refine wpAnyK_takeTo 6 (some 68) (.pointer (some ⟨dg, 0, none⟩)) [7, 8, 9, 11, 12, 13, 14, 15, 16, 17] rfl rfl (by kernel_rfl) (by kernel_rfl) (by kernel_rfl) (by kernel_rfl) (fun _ _ _ h => h) hS (Or.inl ⟨rfl, fun w1 hw1 => by obtain ⟨q0, q1, q2, q3, _⟩ := hSx _ hw1; go_simp⟩) ?_
    simp only [Act.put, List.setIfInBounds_toArray, List.set_cons_zero, List.set_cons_succ]
    refine wpAnyK_takeTo 7 (some 69) (.pointer (some ⟨dg, 0, none⟩)) [8, 9, 11, 12, 13, 14, 15, 16, 17] rfl rfl (by kernel_rfl) (by kernel_rfl) (by kernel_rfl) (by kernel_rfl) (fun _ _ _ h => h) hS (Or.inl ⟨rfl, fun w1 hw1 => by obtain ⟨q0, q1, q2, q3, _⟩ := hSx _ hw1; go_simp⟩) ?_
    simp only [Act.put, List.setIfInBounds_toArray, List.set_cons_zero, List.set_cons_succ]
    refine wpAnyK_takeTo 8 (some 70) (.pointer (some ⟨dg, 1, none⟩)) [9, 11, 12, 13, 14, 15, 16, 17] rfl rfl (by kernel_rfl) (by kernel_rfl) (by kernel_rfl) (by kernel_rfl) (fun _ _ _ h => h) hS (Or.inl ⟨rfl, fun w1 hw1 => by obtain ⟨q0, q1, q2, q3, _⟩ := hSx _ hw1; go_simp⟩) ?_
    simp only [Act.put, List.setIfInBounds_toArray, List.set_cons_zero, List.set_cons_succ]
    refine wpAnyK_takeTo 9 (some 71) (.slice (some ⟨gb, 0, none⟩) nE cE) [11, 12, 13, 14, 15, 16, 17] rfl rfl (by kernel_rfl) (by kernel_rfl) (by kernel_rfl) (by kernel_rfl) (fun _ _ _ h => h) hS (Or.inl ⟨rfl, fun w1 hw1 => by obtain ⟨q0, q1, q2, q3, _⟩ := hSx _ hw1; go_simp⟩) ?_
    simp only [Act.put, List.setIfInBounds_toArray, List.set_cons_zero, List.set_cons_succ]
    refine wpAnyK_takeTo 10 (some 72) (.int .i64 (mid : Int)) [11, 12, 13, 14, 15, 16, 17] rfl rfl (by kernel_rfl) (by kernel_rfl) (by kernel_rfl) (by kernel_rfl) (fun _ _ _ h => h) hS (Or.inl ⟨rfl, fun w1 hw1 => by obtain ⟨q0, q1, q2, q3, _⟩ := hSx _ hw1; go_simp⟩) ?_
    simp only [Act.put, List.setIfInBounds_toArray, List.set_cons_zero, List.set_cons_succ]
    refine wpAnyK_takeTo 11 (some 73) (.pointer (some ⟨gb, mid * 2, none⟩)) [12, 13, 14, 15, 16, 17] rfl rfl (by kernel_rfl) (by kernel_rfl) (by kernel_rfl) (by kernel_rfl) (fun _ _ _ h => h) hS (Or.inl ⟨rfl, fun w1 hw1 => by obtain ⟨q0, q1, q2, q3, _⟩ := hSx _ hw1; go_simp⟩) ?_
    simp only [Act.put, List.setIfInBounds_toArray, List.set_cons_zero, List.set_cons_succ]
    refine wpAnyK_takeTo 12 (some 74) (.agg #[.string mk, .int .i64 mv]) [13, 14, 15, 16, 17] rfl rfl (by kernel_rfl) (by kernel_rfl) (by kernel_rfl) (by kernel_rfl) (fun _ _ _ h => h) hS (Or.inl ⟨rfl, fun w1 hw1 => by obtain ⟨q0, q1, q2, q3, _⟩ := hSx _ hw1; go_simp⟩) ?_
    simp only [Act.put, List.setIfInBounds_toArray, List.set_cons_zero, List.set_cons_succ]
    obtain ⟨VB, hVB⟩ : ∃ VB, VB = Wd.heap.size := ⟨_, rfl⟩
    obtain ⟨Wa, hWa⟩ : ∃ Wa, Wa = Wd.alloc (.cells #[.string mk, .int .i64 mv] 106) := ⟨_, rfl⟩
    have Ga : Fr Wd Wa (fun _ => False) := by rw [hWa]; exact Fr.alloc _ _ _
    have ba : Wa.heap[VB]? = some (.cells [Value.string mk, .int .i64 mv].toArray 106 (0, 0)) := by rw [hWa, hVB]; exact heap_alloc_new Wd _
    refine wpAnyK_one (i := 13) (by kernel_rfl) rfl rfl ?_
    go_simp
    rw [← hWa, ← hVB]
    refine ⟨Ga, ?_⟩
    have rAa := (rA.fr G5 (fun _ _ h => h)).fr Ga (fun _ _ h => h)
    have rBa := (rB.fr G5 (fun _ _ h => h)).fr Ga (fun _ _ h => h)
    have rCa := (rC.fr G5 (fun _ _ h => h)).fr Ga (fun _ _ h => h)
    have hAd := (rA.fr G5 (fun _ _ h => h)).lt
    have hsz5 := (G5.two Ga).size
    have hins := insertI (w := Wa) (.slice la n lc) n (encI L) (by have h := rAa.row; rw [HNL.out] at h; exact h) (encI_one L) (by omega) i hin VB [.string mk, .int .i64 mv] ba rfl (fun u hu => by simp at hu; rcases hu with rfl | rfl <;> rfl) (fun h => by have := hAd VB (rA.ins VB (.inr (.inl (by rw [HNL.out]; exact h)))); omega)
    clear hVB hWa hAd
    refine wpAnyK_one (i := 14) (by kernel_rfl) rfl rfl ?_
    refine wp_call_to (some 76) rfl 54 #[.slice la n lc, .int .i64 (i : Int), .slice (some ⟨VB, 0, none⟩) 1 1] (by go_simp) hins ?_
    rintro en V5 ⟨v5, rfl, hr5, hn5, g5⟩
    obtain ⟨a5, c5, rfl⟩ := shape_n hr5
    refine ⟨_, rfl, fun h => by simp at h, ?_⟩
    simp only [Act.put, List.setIfInBounds_toArray, List.set_cons_zero, List.set_cons_succ]
    obtain ⟨L5, hL5⟩ : ∃ L5, L5 = L.take i ++ (⟨mk, mv⟩ : It) :: L.drop i := ⟨_, rfl⟩
    have hl5 : L5.length = n + 1 := by rw [hL5, List.length_append, List.length_cons, List.length_take, List.length_drop, HNL.out]; omega
    have he5 : (encI L).take (i * 2) ++ [.string mk, .int .i64 mv] ++ (encI L).drop (i * 2) = encI L5 := by rw [encI_take, encI_drop, hL5, encI_append]; simp [encI]
    rw [he5] at hr5
    obtain ⟨n1, hn1'⟩ : ∃ n1, n1 = n + 1 := ⟨_, rfl⟩
    rw [← hn1'] at hr5 hl5 hn5 ⊢
    have hset := rAa.setL (w1 := V5) (lv' := .slice a5 n1 c5) (L' := L5) (by rw [hl5]; exact hr5) (by have h := g5; rw [← HNL.out] at h; exact h) (by have h := hn5; rw [← HNL.out] at h; exact h)
    obtain ⟨W5, hW5⟩ : ∃ W5, W5 = V5.setCell ⟨pg, 1, none⟩ (.slice a5 n1 c5) := ⟨_, rfl⟩
    rw [← hW5] at hset
    obtain ⟨rA6, F6, z1, z2⟩ := hset
    rw [HNL.out] at z1
    have rB6 := rBa.fr F6 (fun k hb ha => hAB k ha hb)
    have rC6 := rCa.fr F6 (fun k hc ha => hAC k ha hc)
    obtain ⟨SA6, hSA6⟩ : ∃ SA6 : Nat → Prop, SA6 = fun k => SA k ∨ (Wa.heap.size ≤ k ∧ k < W5.heap.size) := ⟨_, rfl⟩
    rw [← hSA6] at rA6
    have hW1s : W1.heap.size ≤ W2.heap.size := Nat.le_trans HF2.out.size HF0.out.size
    have hA6 : ∀ k, SA6 k → SA k ∨ W1.heap.size ≤ k := fun k hk => by rw [hSA6] at hk; exact grow_from (fun k hk => .inl hk) (by omega) k hk
    have hAB6 : ∀ k, SA6 k → ¬ SB k := fun k hk => by rw [hSA6] at hk; exact grow_apart hAB rBa.lt k hk
    have hAC6 : ∀ k, SA6 k → ¬ SC k := fun k hk => by rw [hSA6] at hk; exact grow_apart hAC rCa.lt k hk
    have HF6 := hide (HF0.out.two (((G5.two Ga).mono (Y := fun k => SA k ∨ SB k ∨ W1.heap.size ≤ k) (fun _ _ h => h.elim)).two (F6.mono (fun k _ h => .inl h))))
    have HW5 := hide hW5
    have HL5 := hide hL5
    have HLL5 := hide hl5
    have HN1' := hide hn1'
    have xk6 := rA6.cells.2.2
    rw [HML.out] at xk6
    have hn1b : n1 ≤ 128 := by omega
    clear hins hr5 hn5 g5 hL5 hl5 he5 hn1' hW5 hSA6 rAa rBa rCa F6 Ga ba hS hSx rA rB rC hAB hAC hsz5 G5
    refine wpAnyK_one (i := 15) (by kernel_rfl) rfl rfl ?_
    go_simp
    refine wpAnyK_one (i := 16) (by kernel_rfl) rfl rfl ?_
    go_simp
    refine wpAnyK_one (i := 17) (by kernel_rfl) rfl rfl ?_
    go_simp
    rw [← HW5.out]
    refine wpAnyK_done (by kernel_rfl) ?_ _
    clear HW5 z1 z2
    obtain ⟨i1, hi1⟩ : ∃ i1, i1 = i + 1 := ⟨_, rfl⟩
    have hi1i : (i : Int) + 1 = (i1 : Int) := by omega
    obtain ⟨VK, hVK⟩ : ∃ VK, VK = W5.heap.size := ⟨_, rfl⟩
    obtain ⟨W6a, hW6a⟩ : ∃ W6a, W6a = W5.alloc (.cells #[.pointer (some ⟨B, 0, none⟩)] 74) := ⟨_, rfl⟩
    have Gb : Fr W5 W6a (fun _ => False) := by rw [hW6a]; exact Fr.alloc _ _ _
    have bb : W6a.heap[VK]? = some (.cells [Value.pointer (some ⟨B, 0, none⟩)].toArray 74 (0, 0)) := by rw [hW6a, hVK]; exact heap_alloc_new W5 _
    have rAb := rA6.fr Gb (fun _ _ h => h)
    have hmb7 : m ≤ 1048576 := by have := HMN.out; omega
    have HIK := hide (insertK (w := W6a) (.slice ka m kc') m (pts gs) (by have h := rAb.krow; rw [HML.out] at h; exact h) (pts_one _) hmb7 i1 (by have := HMN.out; omega) VK [.pointer (some ⟨B, 0, none⟩)] bb rfl (fun u hu => by simp at hu; rw [hu]; rfl) (fun h => by have := rA6.lt VK (rA6.ins VK (.inr (.inr (by rw [HML.out]; exact h)))); omega))
    have hi1b : i1 ≤ 200 := by omega
    have HI1 := hide hi1
    have HVK := hide hVK
    have HW6a := hide hW6a
    clear hi1 hVK hW6a bb
    go_wp2_with (rw [← HW6a.out, ← HVK.out]; clear HW6a)
    refine HIK.out.mono ?_
    rintro en V6 ⟨v6, rfl, hr6, hn6, g6⟩
    obtain ⟨a6, c6, rfl⟩ := shape_n hr6
    obtain ⟨gs6, hgs6⟩ : ∃ gs6, gs6 = gs.take i1 ++ B :: gs.drop i1 := ⟨_, rfl⟩
    have hl6 : gs6.length = m + 1 := by rw [hgs6, List.length_append, List.length_cons, List.length_take, List.length_drop, HML.out]; have := HMN.out; have := HI1.out; omega
    have he6 : (pts gs).take (i1 * 1) ++ [.pointer (some ⟨B, 0, none⟩)] ++ (pts gs).drop (i1 * 1) = pts gs6 := by rw [pts_take, pts_drop, hgs6]; simp [pts]
    rw [he6] at hr6
    obtain ⟨m1, hm1⟩ : ∃ m1, m1 = m + 1 := ⟨_, rfl⟩
    rw [← hm1] at hr6 hl6 hn6 ⊢
    have hset := rAb.setK (w1 := V6) (kv' := .slice a6 m1 c6) (gs' := gs6) (by rw [hl6]; exact hr6) (by have h := g6; rw [← HML.out] at h; exact h) (by have h := hn6; rw [← HML.out] at h; exact h)
    obtain ⟨W6, hW6⟩ : ∃ W6, W6 = V6.setCell ⟨pg, 2, none⟩ (.slice a6 m1 c6) := ⟨_, rfl⟩
    rw [← hW6] at hset
    obtain ⟨rA7, F7, z1, z2⟩ := hset
    rw [HML.out] at z1
    have rB7 := (rB6.fr Gb (fun _ _ h => h)).fr F7 (fun k hb ha => hAB6 k ha hb)
    have rC7 := (rC6.fr Gb (fun _ _ h => h)).fr F7 (fun k hc ha => hAC6 k ha hc)
    obtain ⟨SA7, hSA7⟩ : ∃ SA7 : Nat → Prop, SA7 = fun k => SA6 k ∨ (W6a.heap.size ≤ k ∧ k < W6.heap.size) := ⟨_, rfl⟩
    rw [← hSA7] at rA7
    have hW25 := HF6.out.size
    have hW12 := HF2.out.size
    have hGb := Gb.size
    have hA7 : ∀ k, SA7 k → SA k ∨ W1.heap.size ≤ k := fun k hk => by rw [hSA7] at hk; exact grow_from hA6 (by omega) k hk
    have hAB7 : ∀ k, SA7 k → ¬ SB k := fun k hk => by rw [hSA7] at hk; exact grow_apart hAB6 (fun k hk => Nat.lt_of_lt_of_le (rB6.lt k hk) hGb) k hk
    have hAC7 : ∀ k, SA7 k → ¬ SC k := fun k hk => by rw [hSA7] at hk; exact grow_apart hAC6 (fun k hk => Nat.lt_of_lt_of_le (rC6.lt k hk) hGb) k hk
    have HF7 := hide (HF6.out.two ((Gb.mono (Y := fun k => SA k ∨ SB k ∨ W1.heap.size ≤ k) (fun _ _ h => h.elim)).two (F7.mono (fun k _ h => by
      rcases hA6 k h with h | h
      · exact .inl h
      · exact .inr (.inr h)))))
    have HW6 := hide hW6
    have HGS6 := hide hgs6
    have xB7 := rB7.cells.2.1
    rw [← HNE.out] at xB7
    clear HIK hr6 hn6 g6 hl6 he6 hm1 hW6 hSA7 rAb Gb F7 hgs6 rA6 rB6 rC6 hA6 hAB6 hAC6 xk6 HVK hW25 hW12 hGb
    go_wp2_with (rw [← HW6.out]; clear HW6)
    clear z1 z2
    refine wp_region_K (fun _ => true) (fun _ : World => True) (by kernel_rfl) ?_
    obtain ⟨Wd, hWd⟩ : ∃ Wd, Wd = W6.drew := ⟨_, rfl⟩
    have G7 : Fr W6 Wd (fun _ => False) := by rw [hWd]; exact Fr.drew _ _
    rw [← hWd]
    clear hWd
    have hS : (fun _ : World => True) Wd := trivial
    refine wpAnyK_takeTo 0 (some 91) (.pointer (some ⟨dg, 0, none⟩)) [12, 13, 14] rfl rfl (by kernel_rfl) (by kernel_rfl) (by kernel_rfl) (by kernel_rfl) (fun _ _ _ h => h) hS (Or.inl ⟨rfl, fun w1 hw1 => by go_simp⟩) ?_
    simp only [Act.put, List.setIfInBounds_toArray, List.set_cons_zero, List.set_cons_succ]
    clear hS
    refine wpAnyK_weak (S := fun U : World => Fr Wd U (fun _ => False)) (hold := fun z => decide (z < 11)) _ _ _ _ ?_
    have hS : (fun U : World => Fr Wd U (fun _ => False)) Wd := Fr.refl _ _
    have hSx : ∀ V, Fr Wd V (fun _ => False) → V.cell? ⟨dg, 1, none⟩ = some (.slice (some ⟨gb, 0, none⟩) nE cE) ∧ True := fun V hV => by
      have hd := G7.two hV
      exact ⟨hd.cell (fun h => h) xB7, trivial⟩
    clear xB7
    refine wpAnyK_takeTo 1 (some 92) (.pointer (some ⟨dg, 0, none⟩)) [2, 3, 4, 11, 12, 13, 14] rfl rfl (by kernel_rfl) (by kernel_rfl) (by kernel_rfl) (by kernel_rfl) (fun _ _ _ h => h) hS (Or.inl ⟨rfl, fun w1 hw1 => by obtain ⟨q0, _⟩ := hSx _ hw1; go_simp⟩) ?_
    simp only [Act.put, List.setIfInBounds_toArray, List.set_cons_zero, List.set_cons_succ]
    refine wpAnyK_takeTo 2 (some 93) (.pointer (some ⟨dg, 0, none⟩)) [3, 4, 11, 12, 13, 14] rfl rfl (by kernel_rfl) (by kernel_rfl) (by kernel_rfl) (by kernel_rfl) (fun _ _ _ h => h) hS (Or.inl ⟨rfl, fun w1 hw1 => by obtain ⟨q0, _⟩ := hSx _ hw1; go_simp⟩) ?_
    simp only [Act.put, List.setIfInBounds_toArray, List.set_cons_zero, List.set_cons_succ]
    refine wpAnyK_takeTo 3 (some 94) (.pointer (some ⟨dg, 1, none⟩)) [4, 11, 12, 13, 14] rfl rfl (by kernel_rfl) (by kernel_rfl) (by kernel_rfl) (by kernel_rfl) (fun _ _ _ h => h) hS (Or.inl ⟨rfl, fun w1 hw1 => by obtain ⟨q0, _⟩ := hSx _ hw1; go_simp⟩) ?_
    simp only [Act.put, List.setIfInBounds_toArray, List.set_cons_zero, List.set_cons_succ]
    refine wpAnyK_takeTo 4 (some 95) (.slice (some ⟨gb, 0, none⟩) nE cE) [11, 12, 13, 14] rfl rfl (by kernel_rfl) (by kernel_rfl) (by kernel_rfl) (by kernel_rfl) (fun _ _ _ h => h) hS (Or.inl ⟨rfl, fun w1 hw1 => by obtain ⟨q0, _⟩ := hSx _ hw1; go_simp⟩) ?_
    simp only [Act.put, List.setIfInBounds_toArray, List.set_cons_zero, List.set_cons_succ]
    refine wpAnyK_takeTo 5 (some 96) (.int .i64 (mid : Int)) [11, 12, 13, 14] rfl rfl (by kernel_rfl) (by kernel_rfl) (by kernel_rfl) (by kernel_rfl) (fun _ _ _ h => h) hS (Or.inl ⟨rfl, fun w1 hw1 => by obtain ⟨q0, _⟩ := hSx _ hw1; go_simp⟩) ?_
    simp only [Act.put, List.setIfInBounds_toArray, List.set_cons_zero, List.set_cons_succ]
    refine wpAnyK_takeTo 6 (some 97) (.pointer (some ⟨dg, 0, none⟩)) [7, 8, 9, 10, 11, 12, 13, 14] rfl rfl (by kernel_rfl) (by kernel_rfl) (by kernel_rfl) (by kernel_rfl) (fun _ _ _ h => h) hS (Or.inl ⟨rfl, fun w1 hw1 => by obtain ⟨q0, _⟩ := hSx _ hw1; go_simp⟩) ?_
    simp only [Act.put, List.setIfInBounds_toArray, List.set_cons_zero, List.set_cons_succ]
    refine wpAnyK_takeTo 7 (some 98) (.pointer (some ⟨dg, 0, none⟩)) [8, 9, 10, 11, 12, 13, 14] rfl rfl (by kernel_rfl) (by kernel_rfl) (by kernel_rfl) (by kernel_rfl) (fun _ _ _ h => h) hS (Or.inl ⟨rfl, fun w1 hw1 => by obtain ⟨q0, _⟩ := hSx _ hw1; go_simp⟩) ?_
    simp only [Act.put, List.setIfInBounds_toArray, List.set_cons_zero, List.set_cons_succ]
    refine wpAnyK_takeTo 8 (some 99) (.pointer (some ⟨dg, 1, none⟩)) [9, 10, 11, 12, 13, 14] rfl rfl (by kernel_rfl) (by kernel_rfl) (by kernel_rfl) (by kernel_rfl) (fun _ _ _ h => h) hS (Or.inl ⟨rfl, fun w1 hw1 => by obtain ⟨q0, _⟩ := hSx _ hw1; go_simp⟩) ?_
    simp only [Act.put, List.setIfInBounds_toArray, List.set_cons_zero, List.set_cons_succ]
    refine wpAnyK_takeTo 9 (some 100) (.slice (some ⟨gb, 0, none⟩) nE cE) [10, 11, 12, 13, 14] rfl rfl (by kernel_rfl) (by kernel_rfl) (by kernel_rfl) (by kernel_rfl) (fun _ _ _ h => h) hS (Or.inl ⟨rfl, fun w1 hw1 => by obtain ⟨q0, _⟩ := hSx _ hw1; go_simp⟩) ?_
    simp only [Act.put, List.setIfInBounds_toArray, List.set_cons_zero, List.set_cons_succ]
    refine wpAnyK_takeTo 10 (some 101) (.int .i64 (nE : Int)) [11, 12, 13, 14] rfl rfl (by kernel_rfl) (by kernel_rfl) (by kernel_rfl) (by kernel_rfl) (fun _ _ _ h => h) hS (Or.inl ⟨rfl, fun w1 hw1 => by obtain ⟨q0, _⟩ := hSx _ hw1; go_simp⟩) ?_
    simp only [Act.put, List.setIfInBounds_toArray, List.set_cons_zero, List.set_cons_succ]
    refine wpAnyK_one (i := 11) (by kernel_rfl) rfl rfl ?_
    have rB8 := rB7.fr G7 (fun _ _ h => h)
    have hde := deleteI (w := Wd) (.slice (some ⟨gb, 0, none⟩) nE cE) nE (encI Le) (by have h := rB8.row; rw [← HNE.out] at h; exact h) (encI_one _) mid nE mid hmdE (Nat.le_refl _) (by omega) (by omega)
    refine wp_call_to (some 102) rfl 56 #[.slice (some ⟨gb, 0, none⟩) nE cE, .int .i64 (mid : Int), .int .i64 (nE : Int)] (by go_simp) hde ?_
    rintro en V8 ⟨v8, rfl, hr8, hb8, g8⟩
    obtain ⟨a8, c8, rfl⟩ := shape_n hr8
    refine ⟨_, rfl, fun h => by simp at h, ?_⟩
    simp only [Act.put, List.setIfInBounds_toArray, List.set_cons_zero, List.set_cons_succ]
    have htk8 : (encI Le).take (mid * 2) ++ (encI Le).drop (nE * 2) = encI (Le.take mid) := by
      rw [encI_take, encI_drop, List.drop_of_length_le (by rw [← HNE.out]; exact Nat.le_refl _)]; simp [encI]
    rw [htk8] at hr8
    have hlt8 : (Le.take mid).length = mid := by rw [List.length_take, ← HNE.out]; omega
    have hset := rB8.setL (w1 := V8) (lv' := .slice a8 mid c8) (L' := Le.take mid) (by rw [hlt8]; exact hr8) (by have h := g8; rw [HNE.out] at h; exact h) (.inl (by have h := hb8; rw [HNE.out] at h; exact h))
    obtain ⟨W8, hW8⟩ : ∃ W8, W8 = V8.setCell ⟨dg, 1, none⟩ (.slice a8 mid c8) := ⟨_, rfl⟩
    rw [← hW8] at hset
    obtain ⟨rB9, F9, z1, z2⟩ := hset
    rw [← HNE.out] at z1
    have rA9 := (rA7.fr G7 (fun _ _ h => h)).fr F9 hAB7
    have rC9 := (rC7.fr G7 (fun _ _ h => h)).fr F9 (fun k hc hb => hBC k hb hc)
    obtain ⟨SB9, hSB9⟩ : ∃ SB9 : Nat → Prop, SB9 = fun k => SB k ∨ (Wd.heap.size ≤ k ∧ k < W8.heap.size) := ⟨_, rfl⟩
    rw [← hSB9] at rB9
    have hW17 : W1.heap.size ≤ Wd.heap.size := by have := HF2.out.size; have := HF7.out.size; have := G7.size; omega
    have hB9 : ∀ k, SB9 k → SB k ∨ W1.heap.size ≤ k := fun k hk => by rw [hSB9] at hk; exact grow_from hB0 hW17 k hk
    have hAB9 : ∀ k, SA7 k → ¬ SB9 k := fun k ha hb => by
      rw [hSB9] at hb
      rcases hb with hb | hb
      · exact hAB7 k ha hb
      · have := (rA7.fr G7 (fun _ _ h => h)).lt k ha; omega
    have hBC9 : ∀ k, SB9 k → ¬ SC k := fun k hb hc => by
      rw [hSB9] at hb
      exact grow_apart hBC (rC7.fr G7 (fun _ _ h => h)).lt k hb hc
    have HF9 := hide (HF7.out.two ((G7.mono (Y := fun k => SA k ∨ SB k ∨ W1.heap.size ≤ k) (fun _ _ h => h.elim)).two (F9.mono (fun k _ h => by
      rcases hB0 k h with h | h
      · exact .inr (.inl h)
      · exact .inr (.inr h)))))
    have HW8 := hide hW8
    have HLT8 := hide hlt8
    clear hde hr8 hb8 g8 htk8 hW8 hSB9 rB8 hS hSx F9 hlt8 rA7 rB7 rC7 hW17 G7
    refine wpAnyK_one (i := 12) (by kernel_rfl) rfl rfl ?_
    go_simp
    refine wpAnyK_one (i := 13) (by kernel_rfl) rfl rfl ?_
    go_simp
    refine wpAnyK_one (i := 14) (by kernel_rfl) rfl rfl ?_
    go_simp
    rw [← HW8.out]
    refine wpAnyK_done (by kernel_rfl) ?_ _
    clear HW8 z1 z2
    have HRES := halve_fin (SA := SA) (SB := SB) hn1 hk1 hnd hkd HIL.out HKL.out HNF.out HFU.out HMD.out HMK.out ho2 HDG.out hg1 hF1 (by rw [← HPG.out]; exact rA9) rB9 rC9 HL5.out (by rw [HGS6.out, HGS.out, HI1.out]) (by rw [HGS0.out, HKS0.out]; simp) (by rw [HKS0.out]; simp) hA7 hB9 hCge hAB9 hAC7 hBC9 hAX hAY hAK hBX hBY hBK hX1 hY1 (FW1.mono (fun k _ h => HN.out.ky rfl k h)) ((HF2.out.mono (fun _ _ h => h.elim)).two HF9.out)
    go_end0
    exact HRES
  · clear hh0
    have hgl : gse.length = nE + 1 := by rw [HGSE.out, List.length_map, HNE.out]; exact hk0
    have hdz : decide (gse.length = 0) = false := decide_eq_false (by omega)
    rw [hdz]
    clear hdz
    obtain ⟨gq, rfl⟩ : ∃ gq, kba = some ⟨gq, 0, none⟩ := by
      obtain ⟨g, e1, _⟩ := row_cell rB.krow (show (pts gse)[0]? = some _ from List.getElem?_eq_getElem (by rw [pts_length]; omega))
      exact ⟨g, e1⟩
    have hcK : gse.length ≤ cK := by
      rcases rB.krow.2 with ⟨e1, _⟩ | ⟨g, cap, cr, e1, _, _, hc, _⟩
      · cases e1
      · cases e1; exact hc
    obtain ⟨mE, hmE⟩ : ∃ mE, gse.length = mE := ⟨_, rfl⟩
    have hmv : mE = 2 * o := by rw [← hmE, hgl]; have := HLEL.out; omega
    have hmb2 : mE ≤ 128 := by omega
    have hock : o ≤ cK := by omega
    have hom : o ≤ mE := by omega
    have hnk : ¬ (cK = o) := by omega
    have xk := rB.cells.2.2
    rw [hmE] at xk
    obtain ⟨mR, hmR⟩ : ∃ mR, mE - o = mR := ⟨_, rfl⟩
    have hmRv : mR = o := by omega
    have HCK := hide (cloneK (w := W2) (some ⟨gq, o, none⟩) mR (cK - o) (pts (gse.drop o)) (by rw [pts_length, List.length_drop]; omega) (fun h => by cases h) (fun x hx j u hu => by
      cases hx
      have hu' : (pts gse)[o + j]? = some u := by rw [← pts_drop, Nat.mul_one, List.getElem?_drop] at hu; exact hu
      obtain ⟨g, e1, c2⟩ := row_cell rB.krow hu'
      cases e1
      rw [Addr.add_mid]
      exact c2) (pts_one _) (by omega))
    have HME := hide hmE
    have HMV := hide hmv
    have HMRV := hide hmRv
    have HGL := hide hgl
    clear hmE hmv hmRv hgl
    go_wp2_with fail
    refine HCK.out.mono ?_
    rintro en V3 ⟨v3, rfl, hr3, hf3, g3⟩
    obtain ⟨a3, c3, rfl⟩ := shape_n hr3
    clear hmR
    have hdk : (gse.drop o).length = mR := by rw [List.length_drop, HME.out]; have := HMV.out; have := HMRV.out; omega
    have hset := rC.setK (w1 := V3) (kv' := .slice a3 mR c3) (gs' := gse.drop o) (by rw [hdk]; exact hr3) (g3.mono (fun _ _ h => h.elim)) (fresh_of rfl hf3)
    obtain ⟨W3, hW3⟩ : ∃ W3, W3 = V3.setCell ⟨B, 2, none⟩ (.slice a3 mR c3) := ⟨_, rfl⟩
    rw [← hW3] at hset
    obtain ⟨rC3, F3, z1, z2⟩ := hset
    have rA3 := rA.fr F3 hAC
    have rB3 := rB.fr F3 hBC
    have hAC3 : ∀ k, SA k → ¬ (SC k ∨ (W2.heap.size ≤ k ∧ k < W3.heap.size)) := fun k ha hc => by
      rcases hc with hc | hc
      · exact hAC k ha hc
      · have := rA.lt k ha; omega
    have hBC3 : ∀ k, SB k → ¬ (SC k ∨ (W2.heap.size ≤ k ∧ k < W3.heap.size)) := fun k ha hc => by
      rcases hc with hc | hc
      · exact hBC k ha hc
      · have := rB.lt k ha; omega
    obtain ⟨SC3, hSC3⟩ : ∃ SC3 : Nat → Prop, SC3 = fun k => SC k ∨ (W2.heap.size ≤ k ∧ k < W3.heap.size) := ⟨_, rfl⟩
    have hC3 : ∀ k, SC3 k → W1.heap.size ≤ k := fun k hk => by
      rw [hSC3] at hk
      rcases hk with hk | hk
      · exact hCge k hk
      · have := HF2.out.size; omega
    rw [← hSC3] at rC3
    have hAC4 : ∀ k, SA k → ¬ SC3 k := fun k ha => by rw [hSC3]; exact hAC3 k ha
    have hBC4 : ∀ k, SB k → ¬ SC3 k := fun k ha => by rw [hSC3]; exact hBC3 k ha
    have F3' : Fr W2 W3 (fun k => W1.heap.size ≤ k) := F3.mono (fun k _ h => hCge k h)
    have HF3 := hide F3'
    have xk3 := rB3.cells.2.2
    rw [HME.out] at xk3
    have HW3 := hide hW3
    clear HCK hr3 hf3 g3 hW3 hSC3 rA rB rC hAC3 hBC3 F3 F3' hAC hBC hCge xk
    go_wp2_with (rw [← HW3.out]; clear HW3)
    clear z1 z2
    refine wp_region_K (fun _ => true) (fun _ : World => True) (by kernel_rfl) ?_
    obtain ⟨Wd, hWd⟩ : ∃ Wd, Wd = W3.drew := ⟨_, rfl⟩
    have F4 : Fr W3 Wd (fun _ => False) := by rw [hWd]; exact Fr.drew _ _
    rw [← hWd]
    clear hWd
    have hS : (fun _ : World => True) Wd := trivial
    refine wpAnyK_takeTo 0 (some 47) (.pointer (some ⟨dg, 0, none⟩)) [13, 14, 15] rfl rfl (by kernel_rfl) (by kernel_rfl) (by kernel_rfl) (by kernel_rfl) (fun _ _ _ h => h) hS (Or.inl ⟨rfl, fun w1 hw1 => by go_simp⟩) ?_
    simp only [Act.put, List.setIfInBounds_toArray, List.set_cons_zero, List.set_cons_succ]
    clear hS
    refine wpAnyK_weak (S := fun U : World => Fr Wd U (fun _ => False)) (hold := fun z => decide (z < 12)) _ _ _ _ ?_
    have hS : (fun U : World => Fr Wd U (fun _ => False)) Wd := Fr.refl _ _
    have hSx : ∀ V, Fr Wd V (fun _ => False) → V.cell? ⟨dg, 2, none⟩ = some (.slice (some ⟨gq, 0, none⟩) mE cK) ∧ True := fun V hV => by
      have hd := F4.two hV
      exact ⟨hd.cell (fun h => h) xk3, trivial⟩
    clear xk3
    refine wpAnyK_takeTo 1 (some 48) (.pointer (some ⟨dg, 0, none⟩)) [2, 3, 4, 12, 13, 14, 15] rfl rfl (by kernel_rfl) (by kernel_rfl) (by kernel_rfl) (by kernel_rfl) (fun _ _ _ h => h) hS (Or.inl ⟨rfl, fun w1 hw1 => by obtain ⟨q0, _⟩ := hSx _ hw1; go_simp <;> try (rw [wrap_nat (by omega)])⟩) ?_
    simp only [Act.put, List.setIfInBounds_toArray, List.set_cons_zero, List.set_cons_succ]
    refine wpAnyK_takeTo 2 (some 49) (.pointer (some ⟨dg, 0, none⟩)) [3, 4, 12, 13, 14, 15] rfl rfl (by kernel_rfl) (by kernel_rfl) (by kernel_rfl) (by kernel_rfl) (fun _ _ _ h => h) hS (Or.inl ⟨rfl, fun w1 hw1 => by obtain ⟨q0, _⟩ := hSx _ hw1; go_simp <;> try (rw [wrap_nat (by omega)])⟩) ?_
    simp only [Act.put, List.setIfInBounds_toArray, List.set_cons_zero, List.set_cons_succ]
    refine wpAnyK_takeTo 3 (some 50) (.pointer (some ⟨dg, 2, none⟩)) [4, 12, 13, 14, 15] rfl rfl (by kernel_rfl) (by kernel_rfl) (by kernel_rfl) (by kernel_rfl) (fun _ _ _ h => h) hS (Or.inl ⟨rfl, fun w1 hw1 => by obtain ⟨q0, _⟩ := hSx _ hw1; go_simp <;> try (rw [wrap_nat (by omega)])⟩) ?_
    simp only [Act.put, List.setIfInBounds_toArray, List.set_cons_zero, List.set_cons_succ]
    refine wpAnyK_takeTo 4 (some 51) (.slice (some ⟨gq, 0, none⟩) mE cK) [12, 13, 14, 15] rfl rfl (by kernel_rfl) (by kernel_rfl) (by kernel_rfl) (by kernel_rfl) (fun _ _ _ h => h) hS (Or.inl ⟨rfl, fun w1 hw1 => by obtain ⟨q0, _⟩ := hSx _ hw1; go_simp <;> try (rw [wrap_nat (by omega)])⟩) ?_
    simp only [Act.put, List.setIfInBounds_toArray, List.set_cons_zero, List.set_cons_succ]
    refine wpAnyK_takeTo 5 (some 52) (.int .i64 (mid : Int)) [6, 12, 13, 14, 15] rfl rfl (by kernel_rfl) (by kernel_rfl) (by kernel_rfl) (by kernel_rfl) (fun _ _ _ h => h) hS (Or.inl ⟨rfl, fun w1 hw1 => by obtain ⟨q0, _⟩ := hSx _ hw1; go_simp <;> try (rw [wrap_nat (by omega)])⟩) ?_
    simp only [Act.put, List.setIfInBounds_toArray, List.set_cons_zero, List.set_cons_succ]
    refine wpAnyK_takeTo 6 (some 53) (.int .i64 (o : Int)) [12, 13, 14, 15] rfl rfl (by kernel_rfl) (by kernel_rfl) (by kernel_rfl) (by kernel_rfl) (fun _ _ _ h => h) hS (Or.inl ⟨rfl, fun w1 hw1 => by obtain ⟨q0, _⟩ := hSx _ hw1; go_simp <;> try (rw [wrap_nat (by omega)])⟩) ?_
    simp only [Act.put, List.setIfInBounds_toArray, List.set_cons_zero, List.set_cons_succ]
    refine wpAnyK_takeTo 7 (some 54) (.pointer (some ⟨dg, 0, none⟩)) [8, 9, 10, 11, 12, 13, 14, 15] rfl rfl (by kernel_rfl) (by kernel_rfl) (by kernel_rfl) (by kernel_rfl) (fun _ _ _ h => h) hS (Or.inl ⟨rfl, fun w1 hw1 => by obtain ⟨q0, _⟩ := hSx _ hw1; go_simp <;> try (rw [wrap_nat (by omega)])⟩) ?_
    simp only [Act.put, List.setIfInBounds_toArray, List.set_cons_zero, List.set_cons_succ]
    refine wpAnyK_takeTo 8 (some 55) (.pointer (some ⟨dg, 0, none⟩)) [9, 10, 11, 12, 13, 14, 15] rfl rfl (by kernel_rfl) (by kernel_rfl) (by kernel_rfl) (by kernel_rfl) (fun _ _ _ h => h) hS (Or.inl ⟨rfl, fun w1 hw1 => by obtain ⟨q0, _⟩ := hSx _ hw1; go_simp <;> try (rw [wrap_nat (by omega)])⟩) ?_
    simp only [Act.put, List.setIfInBounds_toArray, List.set_cons_zero, List.set_cons_succ]
    refine wpAnyK_takeTo 9 (some 56) (.pointer (some ⟨dg, 2, none⟩)) [10, 11, 12, 13, 14, 15] rfl rfl (by kernel_rfl) (by kernel_rfl) (by kernel_rfl) (by kernel_rfl) (fun _ _ _ h => h) hS (Or.inl ⟨rfl, fun w1 hw1 => by obtain ⟨q0, _⟩ := hSx _ hw1; go_simp <;> try (rw [wrap_nat (by omega)])⟩) ?_
    simp only [Act.put, List.setIfInBounds_toArray, List.set_cons_zero, List.set_cons_succ]
    refine wpAnyK_takeTo 10 (some 57) (.slice (some ⟨gq, 0, none⟩) mE cK) [11, 12, 13, 14, 15] rfl rfl (by kernel_rfl) (by kernel_rfl) (by kernel_rfl) (by kernel_rfl) (fun _ _ _ h => h) hS (Or.inl ⟨rfl, fun w1 hw1 => by obtain ⟨q0, _⟩ := hSx _ hw1; go_simp <;> try (rw [wrap_nat (by omega)])⟩) ?_
    simp only [Act.put, List.setIfInBounds_toArray, List.set_cons_zero, List.set_cons_succ]
    refine wpAnyK_takeTo 11 (some 58) (.int .i64 (mE : Int)) [12, 13, 14, 15] rfl rfl (by kernel_rfl) (by kernel_rfl) (by kernel_rfl) (by kernel_rfl) (fun _ _ _ h => h) hS (Or.inl ⟨rfl, fun w1 hw1 => by obtain ⟨q0, _⟩ := hSx _ hw1; go_simp <;> try (rw [wrap_nat (by omega)])⟩) ?_
    simp only [Act.put, List.setIfInBounds_toArray, List.set_cons_zero, List.set_cons_succ]
    refine wpAnyK_one (i := 12) (by kernel_rfl) rfl rfl ?_
    have rB4 := rB3.fr F4 (fun _ _ h => h)
    have hde := deleteK (w := Wd) (.slice (some ⟨gq, 0, none⟩) mE cK) mE (pts gse) (by have h := rB4.krow; rw [HME.out] at h; exact h) (pts_one _) o mE o (by have := HMV.out; omega) (Nat.le_refl _) (by omega) (by have := HMV.out; omega)
    refine wp_call_to (some 59) rfl 89 #[.slice (some ⟨gq, 0, none⟩) mE cK, .int .i64 (o : Int), .int .i64 (mE : Int)] (by go_simp) hde ?_
    rintro en V4 ⟨v4, rfl, hr4, hb4, g4⟩
    obtain ⟨a4, c4, rfl⟩ := shape_n hr4
    refine ⟨_, rfl, fun h => by simp at h, ?_⟩
    simp only [Act.put, List.setIfInBounds_toArray, List.set_cons_zero, List.set_cons_succ]
    have hlk : pts gse = pts (gse.take o) ++ pts (gse.drop o) := by unfold pts; rw [← List.map_append, List.take_append_drop]
    have htk : (pts gse).take (o * 1) ++ (pts gse).drop (mE * 1) = pts (gse.take o) := by
      rw [pts_take, pts_drop, List.drop_of_length_le (by rw [HME.out]; exact Nat.le_refl _), show pts [] = [] from rfl, List.append_nil]
    rw [htk] at hr4
    have hlt4 : (gse.take o).length = o := by rw [List.length_take, HME.out]; have := HMV.out; omega
    have hset := rB4.setK (w1 := V4) (kv' := .slice a4 o c4) (gs' := gse.take o) (by rw [hlt4]; exact hr4) (by have h := g4; rw [← HME.out] at h; exact h) (.inl (by have h := hb4; rw [← HME.out] at h; exact h))
    obtain ⟨W4, hW4⟩ : ∃ W4, W4 = V4.setCell ⟨dg, 2, none⟩ (.slice a4 o c4) := ⟨_, rfl⟩
    rw [← hW4] at hset
    obtain ⟨rB5, F5, z1, z2⟩ := hset
    have hd4 := F4.size
    have hS4 := F5.size
    have rA5 := (rA3.fr F4 (fun _ _ h => h)).fr F5 hAB
    have rC5 := (rC3.fr F4 (fun _ _ h => h)).fr F5 (fun k hc hb => hBC4 k hb hc)
    obtain ⟨SB5, hSB5⟩ : ∃ SB5 : Nat → Prop, SB5 = fun k => SB k ∨ (Wd.heap.size ≤ k ∧ k < W4.heap.size) := ⟨_, rfl⟩
    rw [← hSB5] at rB5
    have hW12 := HF2.out.size
    have hW23 := HF3.out.size
    have hB5 : ∀ k, SB5 k → SB k ∨ W1.heap.size ≤ k := fun k hk => by rw [hSB5] at hk; exact grow_from (fun k hk => .inl hk) (by omega) k hk
    have hAB5 : ∀ k, SA k → ¬ SB5 k := fun k ha hb => by
      rw [hSB5] at hb
      rcases hb with hb | hb
      · exact hAB k ha hb
      · have := rA3.lt k ha; omega
    have hBC5 : ∀ k, SB5 k → ¬ SC3 k := fun k hb hc => by
      rw [hSB5] at hb
      exact grow_apart hBC4 (fun k hk => Nat.lt_of_lt_of_le (rC3.lt k hk) hd4) k hb hc
    have HF5 := hide (((HF3.out.mono (Y := fun k => SA k ∨ SB k ∨ W1.heap.size ≤ k) (fun _ _ h => .inr (.inr h))).two (F4.mono (fun _ _ h => h.elim))).two (F5.mono (fun k _ h => .inr (.inl h))))
    have HW4 := hide hW4
    have HLT4 := hide hlt4
    clear hde hr4 hb4 g4 hlk htk hW4 hSB5 rB4 rA3 rB3 rC3 hd4 hS4 hW12 hW23 hS hSx hBC4 F5 hlt4 F4
    refine wpAnyK_one (i := 13) (by kernel_rfl) rfl rfl ?_
    go_simp
    refine wpAnyK_one (i := 14) (by kernel_rfl) rfl rfl ?_
    go_simp
    refine wpAnyK_one (i := 15) (by kernel_rfl) rfl rfl ?_
    go_simp
    rw [← HW4.out]
    refine wpAnyK_done (by kernel_rfl) ?_ _
    clear HW4 z1 z2
    obtain ⟨la, lc, ka, kc', rfl, rfl⟩ := rA5.shape
    obtain ⟨n, hn⟩ : ∃ n, L.length = n := ⟨_, rfl⟩
    obtain ⟨m, hm⟩ : ∃ m, gs.length = m := ⟨_, rfl⟩
    have hmn : m = n + 1 := by rw [← hm, HGS.out, List.length_map, List.length_set, HKL.out, hn]
    have hin : i ≤ n := by have := HKL.out; omega
    have hnb5 : n ≤ 127 := by have := HNF.out; omega
    have hmdE : mid < nE := by have := HLEL.out; omega
    obtain ⟨⟨mk, mv⟩, hmk⟩ : ∃ x, Le[mid]? = some x := ⟨_, List.getElem?_eq_getElem (by rw [← HNE.out]; exact hmdE)⟩
    obtain ⟨g5', e5, ci⟩ := row_cell rB5.row (encI_get Le mid _ hmk).1
    obtain ⟨g6', e6, cj⟩ := row_cell rB5.row (encI_get Le mid _ hmk).2
    cases e5
    cases e6
    dsimp only at ci cj
    have xA1 := rA5.cells.2.1
    rw [hn] at xA1
    have xB1 := rB5.cells.2.1
    rw [← HNE.out] at xB1
    have HMK := hide hmk
    have HNL := hide hn
    have HML := hide hm
    have HMN := hide hmn
    clear hn hm hmn hmk
    go_wp2_with fail
    refine wp_region_K (fun _ => true) (fun _ : World => True) (by kernel_rfl) ?_
    obtain ⟨Wd, hWd⟩ : ∃ Wd, Wd = W4.drew := ⟨_, rfl⟩
    have G5 : Fr W4 Wd (fun _ => False) := by rw [hWd]; exact Fr.drew _ _
    rw [← hWd]
    clear hWd
    have hS : (fun _ : World => True) Wd := trivial
    refine wpAnyK_takeTo 0 (some 62) (.pointer (some ⟨pg, 0, none⟩)) [15, 16, 17] rfl rfl (by kernel_rfl) (by kernel_rfl) (by kernel_rfl) (by kernel_rfl) (fun _ _ _ h => h) hS (Or.inl ⟨rfl, fun w1 hw1 => by go_simp⟩) ?_
    simp only [Act.put, List.setIfInBounds_toArray, List.set_cons_zero, List.set_cons_succ]
    clear hS
    refine wpAnyK_weak (S := fun U : World => Fr Wd U (fun _ => False)) (hold := fun z => decide (z < 14)) _ _ _ _ ?_
    have hS : (fun U : World => Fr Wd U (fun _ => False)) Wd := Fr.refl _ _
    have hSx : ∀ V, Fr Wd V (fun _ => False) → V.cell? ⟨pg, 1, none⟩ = some (.slice la n lc) ∧ V.cell? ⟨dg, 1, none⟩ = some (.slice (some ⟨gb, 0, none⟩) nE cE) ∧ V.cell? ⟨gb, mid * 2, none⟩ = some (.string mk) ∧ V.cell? ⟨gb, mid * 2 + 1, none⟩ = some (.int .i64 mv) ∧ True := fun V hV => by
      have hd := G5.two hV
      exact ⟨hd.cell (fun h => h) xA1, hd.cell (fun h => h) xB1, hd.cell (fun h => h) ci, hd.cell (fun h => h) cj, trivial⟩
    clear xA1 xB1 ci cj
    refine wpAnyK_takeTo 1 (some 63) (.pointer (some ⟨pg, 0, none⟩)) [2, 3, 4, 14, 15, 16, 17] rfl rfl (by kernel_rfl) (by kernel_rfl) (by kernel_rfl) (by kernel_rfl) (fun _ _ _ h => h) hS (Or.inl ⟨rfl, fun w1 hw1 => by obtain ⟨q0, q1, q2, q3, _⟩ := hSx _ hw1; go_simp⟩) ?_
    simp only [Act.put, List.setIfInBounds_toArray, List.set_cons_zero, List.set_cons_succ]
    refine wpAnyK_takeTo 2 (some 64) (.pointer (some ⟨pg, 0, none⟩)) [3, 4, 14, 15, 16, 17] rfl rfl (by kernel_rfl) (by kernel_rfl) (by kernel_rfl) (by kernel_rfl) (fun _ _ _ h => h) hS (Or.inl ⟨rfl, fun w1 hw1 => by obtain ⟨q0, q1, q2, q3, _⟩ := hSx _ hw1; go_simp⟩) ?_
    simp only [Act.put, List.setIfInBounds_toArray, List.set_cons_zero, List.set_cons_succ]
    refine wpAnyK_takeTo 3 (some 65) (.pointer (some ⟨pg, 1, none⟩)) [4, 14, 15, 16, 17] rfl rfl (by kernel_rfl) (by kernel_rfl) (by kernel_rfl) (by kernel_rfl) (fun _ _ _ h => h) hS (Or.inl ⟨rfl, fun w1 hw1 => by obtain ⟨q0, q1, q2, q3, _⟩ := hSx _ hw1; go_simp⟩) ?_
    simp only [Act.put, List.setIfInBounds_toArray, List.set_cons_zero, List.set_cons_succ]
    refine wpAnyK_takeTo 4 (some 66) (.slice la n lc) [14, 15, 16, 17] rfl rfl (by kernel_rfl) (by kernel_rfl) (by kernel_rfl) (by kernel_rfl) (fun _ _ _ h => h) hS (Or.inl ⟨rfl, fun w1 hw1 => by obtain ⟨q0, q1, q2, q3, _⟩ := hSx _ hw1; go_simp⟩) ?_
    simp only [Act.put, List.setIfInBounds_toArray, List.set_cons_zero, List.set_cons_succ]
    refine wpAnyK_takeTo 5 (some 67) (.int .i64 (i : Int)) [14, 15, 16, 17] rfl rfl (by kernel_rfl) (by kernel_rfl) (by kernel_rfl) (by kernel_rfl) (fun _ _ _ h => h) hS (Or.inl ⟨rfl, fun w1 hw1 => by obtain ⟨q0, q1, q2, q3, _⟩ := hSx _ hw1; go_simp⟩) ?_
    simp only [Act.put, List.setIfInBounds_toArray, List.set_cons_zero, List.set_cons_succ]
    refine wpAnyK_takeTo 6 (some 68) (.pointer (some ⟨dg, 0, none⟩)) [7, 8, 9, 11, 12, 13, 14, 15, 16, 17] rfl rfl (by kernel_rfl) (by kernel_rfl) (by kernel_rfl) (by kernel_rfl) (fun _ _ _ h => h) hS (Or.inl ⟨rfl, fun w1 hw1 => by obtain ⟨q0, q1, q2, q3, _⟩ := hSx _ hw1; go_simp⟩) ?_
    simp only [Act.put, List.setIfInBounds_toArray, List.set_cons_zero, List.set_cons_succ]
    refine wpAnyK_takeTo 7 (some 69) (.pointer (some ⟨dg, 0, none⟩)) [8, 9, 11, 12, 13, 14, 15, 16, 17] rfl rfl (by kernel_rfl) (by kernel_rfl) (by kernel_rfl) (by kernel_rfl) (fun _ _ _ h => h) hS (Or.inl ⟨rfl, fun w1 hw1 => by obtain ⟨q0, q1, q2, q3, _⟩ := hSx _ hw1; go_simp⟩) ?_
    simp only [Act.put, List.setIfInBounds_toArray, List.set_cons_zero, List.set_cons_succ]
    refine wpAnyK_takeTo 8 (some 70) (.pointer (some ⟨dg, 1, none⟩)) [9, 11, 12, 13, 14, 15, 16, 17] rfl rfl (by kernel_rfl) (by kernel_rfl) (by kernel_rfl) (by kernel_rfl) (fun _ _ _ h => h) hS (Or.inl ⟨rfl, fun w1 hw1 => by obtain ⟨q0, q1, q2, q3, _⟩ := hSx _ hw1; go_simp⟩) ?_
    simp only [Act.put, List.setIfInBounds_toArray, List.set_cons_zero, List.set_cons_succ]
    refine wpAnyK_takeTo 9 (some 71) (.slice (some ⟨gb, 0, none⟩) nE cE) [11, 12, 13, 14, 15, 16, 17] rfl rfl (by kernel_rfl) (by kernel_rfl) (by kernel_rfl) (by kernel_rfl) (fun _ _ _ h => h) hS (Or.inl ⟨rfl, fun w1 hw1 => by obtain ⟨q0, q1, q2, q3, _⟩ := hSx _ hw1; go_simp⟩) ?_
    simp only [Act.put, List.setIfInBounds_toArray, List.set_cons_zero, List.set_cons_succ]
    refine wpAnyK_takeTo 10 (some 72) (.int .i64 (mid : Int)) [11, 12, 13, 14, 15, 16, 17] rfl rfl (by kernel_rfl) (by kernel_rfl) (by kernel_rfl) (by kernel_rfl) (fun _ _ _ h => h) hS (Or.inl ⟨rfl, fun w1 hw1 => by obtain ⟨q0, q1, q2, q3, _⟩ := hSx _ hw1; go_simp⟩) ?_
    simp only [Act.put, List.setIfInBounds_toArray, List.set_cons_zero, List.set_cons_succ]
    refine wpAnyK_takeTo 11 (some 73) (.pointer (some ⟨gb, mid * 2, none⟩)) [12, 13, 14, 15, 16, 17] rfl rfl (by kernel_rfl) (by kernel_rfl) (by kernel_rfl) (by kernel_rfl) (fun _ _ _ h => h) hS (Or.inl ⟨rfl, fun w1 hw1 => by obtain ⟨q0, q1, q2, q3, _⟩ := hSx _ hw1; go_simp⟩) ?_
    simp only [Act.put, List.setIfInBounds_toArray, List.set_cons_zero, List.set_cons_succ]
    refine wpAnyK_takeTo 12 (some 74) (.agg #[.string mk, .int .i64 mv]) [13, 14, 15, 16, 17] rfl rfl (by kernel_rfl) (by kernel_rfl) (by kernel_rfl) (by kernel_rfl) (fun _ _ _ h => h) hS (Or.inl ⟨rfl, fun w1 hw1 => by obtain ⟨q0, q1, q2, q3, _⟩ := hSx _ hw1; go_simp⟩) ?_
    simp only [Act.put, List.setIfInBounds_toArray, List.set_cons_zero, List.set_cons_succ]
    obtain ⟨VB, hVB⟩ : ∃ VB, VB = Wd.heap.size := ⟨_, rfl⟩
    obtain ⟨Wa, hWa⟩ : ∃ Wa, Wa = Wd.alloc (.cells #[.string mk, .int .i64 mv] 106) := ⟨_, rfl⟩
    have Ga : Fr Wd Wa (fun _ => False) := by rw [hWa]; exact Fr.alloc _ _ _
    have ba : Wa.heap[VB]? = some (.cells [Value.string mk, .int .i64 mv].toArray 106 (0, 0)) := by rw [hWa, hVB]; exact heap_alloc_new Wd _
    refine wpAnyK_one (i := 13) (by kernel_rfl) rfl rfl ?_
    go_simp
    rw [← hWa, ← hVB]
    refine ⟨Ga, ?_⟩
    have rAa := (rA5.fr G5 (fun _ _ h => h)).fr Ga (fun _ _ h => h)
    have rBa := (rB5.fr G5 (fun _ _ h => h)).fr Ga (fun _ _ h => h)
    have rCa := (rC5.fr G5 (fun _ _ h => h)).fr Ga (fun _ _ h => h)
    have hAd := (rA5.fr G5 (fun _ _ h => h)).lt
    have hsz5 := (G5.two Ga).size
    have hins := insertI (w := Wa) (.slice la n lc) n (encI L) (by have h := rAa.row; rw [HNL.out] at h; exact h) (encI_one L) (by omega) i hin VB [.string mk, .int .i64 mv] ba rfl (fun u hu => by simp at hu; rcases hu with rfl | rfl <;> rfl) (fun h => by have := hAd VB (rA5.ins VB (.inr (.inl (by rw [HNL.out]; exact h)))); omega)
    clear hVB hWa hAd
    refine wpAnyK_one (i := 14) (by kernel_rfl) rfl rfl ?_
    refine wp_call_to (some 76) rfl 54 #[.slice la n lc, .int .i64 (i : Int), .slice (some ⟨VB, 0, none⟩) 1 1] (by go_simp) hins ?_
    rintro en V5 ⟨v5, rfl, hr5, hn5, g5⟩
    obtain ⟨a5, c5, rfl⟩ := shape_n hr5
    refine ⟨_, rfl, fun h => by simp at h, ?_⟩
    simp only [Act.put, List.setIfInBounds_toArray, List.set_cons_zero, List.set_cons_succ]
    obtain ⟨L5, hL5⟩ : ∃ L5, L5 = L.take i ++ (⟨mk, mv⟩ : It) :: L.drop i := ⟨_, rfl⟩
    have hl5 : L5.length = n + 1 := by rw [hL5, List.length_append, List.length_cons, List.length_take, List.length_drop, HNL.out]; omega
    have he5 : (encI L).take (i * 2) ++ [.string mk, .int .i64 mv] ++ (encI L).drop (i * 2) = encI L5 := by rw [encI_take, encI_drop, hL5, encI_append]; simp [encI]
    rw [he5] at hr5
    obtain ⟨n1, hn1'⟩ : ∃ n1, n1 = n + 1 := ⟨_, rfl⟩
    rw [← hn1'] at hr5 hl5 hn5 ⊢
    have hset := rAa.setL (w1 := V5) (lv' := .slice a5 n1 c5) (L' := L5) (by rw [hl5]; exact hr5) (by have h := g5; rw [← HNL.out] at h; exact h) (by have h := hn5; rw [← HNL.out] at h; exact h)
    obtain ⟨W5, hW5⟩ : ∃ W5, W5 = V5.setCell ⟨pg, 1, none⟩ (.slice a5 n1 c5) := ⟨_, rfl⟩
    rw [← hW5] at hset
    obtain ⟨rA6, F6, z1, z2⟩ := hset
    rw [HNL.out] at z1
    have rB6 := rBa.fr F6 (fun k hb ha => hAB5 k ha hb)
    have rC6 := rCa.fr F6 (fun k hc ha => hAC4 k ha hc)
    obtain ⟨SA6, hSA6⟩ : ∃ SA6 : Nat → Prop, SA6 = fun k => SA k ∨ (Wa.heap.size ≤ k ∧ k < W5.heap.size) := ⟨_, rfl⟩
    rw [← hSA6] at rA6
    have hW1s : W1.heap.size ≤ W4.heap.size := Nat.le_trans HF2.out.size HF5.out.size
    have hA6 : ∀ k, SA6 k → SA k ∨ W1.heap.size ≤ k := fun k hk => by rw [hSA6] at hk; exact grow_from (fun k hk => .inl hk) (by omega) k hk
    have hAB6 : ∀ k, SA6 k → ¬ SB5 k := fun k hk => by rw [hSA6] at hk; exact grow_apart hAB5 rBa.lt k hk
    have hAC6 : ∀ k, SA6 k → ¬ SC3 k := fun k hk => by rw [hSA6] at hk; exact grow_apart hAC4 rCa.lt k hk
    have HF6 := hide (HF5.out.two (((G5.two Ga).mono (Y := fun k => SA k ∨ SB k ∨ W1.heap.size ≤ k) (fun _ _ h => h.elim)).two (F6.mono (fun k _ h => .inl h))))
    have HW5 := hide hW5
    have HL5 := hide hL5
    have HLL5 := hide hl5
    have HN1' := hide hn1'
    have xk6 := rA6.cells.2.2
    rw [HML.out] at xk6
    have hn1b : n1 ≤ 128 := by omega
    clear hins hr5 hn5 g5 hL5 hl5 he5 hn1' hW5 hSA6 rAa rBa rCa F6 Ga ba hS hSx rA5 rB5 rC5 hAB5 hAC4 hsz5 G5
    refine wpAnyK_one (i := 15) (by kernel_rfl) rfl rfl ?_
    go_simp
    refine wpAnyK_one (i := 16) (by kernel_rfl) rfl rfl ?_
    go_simp
    refine wpAnyK_one (i := 17) (by kernel_rfl) rfl rfl ?_
    go_simp
    rw [← HW5.out]
    refine wpAnyK_done (by kernel_rfl) ?_ _
    clear HW5 z1 z2
    obtain ⟨i1, hi1⟩ : ∃ i1, i1 = i + 1 := ⟨_, rfl⟩
    have hi1i : (i : Int) + 1 = (i1 : Int) := by omega
    obtain ⟨VK, hVK⟩ : ∃ VK, VK = W5.heap.size := ⟨_, rfl⟩
    obtain ⟨W6a, hW6a⟩ : ∃ W6a, W6a = W5.alloc (.cells #[.pointer (some ⟨B, 0, none⟩)] 74) := ⟨_, rfl⟩
    have Gb : Fr W5 W6a (fun _ => False) := by rw [hW6a]; exact Fr.alloc _ _ _
    have bb : W6a.heap[VK]? = some (.cells [Value.pointer (some ⟨B, 0, none⟩)].toArray 74 (0, 0)) := by rw [hW6a, hVK]; exact heap_alloc_new W5 _
    have rAb := rA6.fr Gb (fun _ _ h => h)
    have hmb7 : m ≤ 1048576 := by have := HMN.out; omega
    have HIK := hide (insertK (w := W6a) (.slice ka m kc') m (pts gs) (by have h := rAb.krow; rw [HML.out] at h; exact h) (pts_one _) hmb7 i1 (by have := HMN.out; omega) VK [.pointer (some ⟨B, 0, none⟩)] bb rfl (fun u hu => by simp at hu; rw [hu]; rfl) (fun h => by have := rA6.lt VK (rA6.ins VK (.inr (.inr (by rw [HML.out]; exact h)))); omega))
    have hi1b : i1 ≤ 200 := by omega
    have HI1 := hide hi1
    have HVK := hide hVK
    have HW6a := hide hW6a
    clear hi1 hVK hW6a bb
    go_wp2_with (rw [← HW6a.out, ← HVK.out]; clear HW6a)
    refine HIK.out.mono ?_
    rintro en V6 ⟨v6, rfl, hr6, hn6, g6⟩
    obtain ⟨a6, c6, rfl⟩ := shape_n hr6
    obtain ⟨gs6, hgs6⟩ : ∃ gs6, gs6 = gs.take i1 ++ B :: gs.drop i1 := ⟨_, rfl⟩
    have hl6 : gs6.length = m + 1 := by rw [hgs6, List.length_append, List.length_cons, List.length_take, List.length_drop, HML.out]; have := HMN.out; have := HI1.out; omega
    have he6 : (pts gs).take (i1 * 1) ++ [.pointer (some ⟨B, 0, none⟩)] ++ (pts gs).drop (i1 * 1) = pts gs6 := by rw [pts_take, pts_drop, hgs6]; simp [pts]
    rw [he6] at hr6
    obtain ⟨m1, hm1⟩ : ∃ m1, m1 = m + 1 := ⟨_, rfl⟩
    rw [← hm1] at hr6 hl6 hn6 ⊢
    have hset := rAb.setK (w1 := V6) (kv' := .slice a6 m1 c6) (gs' := gs6) (by rw [hl6]; exact hr6) (by have h := g6; rw [← HML.out] at h; exact h) (by have h := hn6; rw [← HML.out] at h; exact h)
    obtain ⟨W6, hW6⟩ : ∃ W6, W6 = V6.setCell ⟨pg, 2, none⟩ (.slice a6 m1 c6) := ⟨_, rfl⟩
    rw [← hW6] at hset
    obtain ⟨rA7, F7, z1, z2⟩ := hset
    rw [HML.out] at z1
    have rB7 := (rB6.fr Gb (fun _ _ h => h)).fr F7 (fun k hb ha => hAB6 k ha hb)
    have rC7 := (rC6.fr Gb (fun _ _ h => h)).fr F7 (fun k hc ha => hAC6 k ha hc)
    obtain ⟨SA7, hSA7⟩ : ∃ SA7 : Nat → Prop, SA7 = fun k => SA6 k ∨ (W6a.heap.size ≤ k ∧ k < W6.heap.size) := ⟨_, rfl⟩
    rw [← hSA7] at rA7
    have hW25 := HF6.out.size
    have hW12 := HF2.out.size
    have hGb := Gb.size
    have hA7 : ∀ k, SA7 k → SA k ∨ W1.heap.size ≤ k := fun k hk => by rw [hSA7] at hk; exact grow_from hA6 (by omega) k hk
    have hAB7 : ∀ k, SA7 k → ¬ SB5 k := fun k hk => by rw [hSA7] at hk; exact grow_apart hAB6 (fun k hk => Nat.lt_of_lt_of_le (rB6.lt k hk) hGb) k hk
    have hAC7 : ∀ k, SA7 k → ¬ SC3 k := fun k hk => by rw [hSA7] at hk; exact grow_apart hAC6 (fun k hk => Nat.lt_of_lt_of_le (rC6.lt k hk) hGb) k hk
    have HF7 := hide (HF6.out.two ((Gb.mono (Y := fun k => SA k ∨ SB k ∨ W1.heap.size ≤ k) (fun _ _ h => h.elim)).two (F7.mono (fun k _ h => by
      rcases hA6 k h with h | h
      · exact .inl h
      · exact .inr (.inr h)))))
    have HW6 := hide hW6
    have HGS6 := hide hgs6
    have xB7 := rB7.cells.2.1
    rw [← HNE.out] at xB7
    clear HIK hr6 hn6 g6 hl6 he6 hm1 hW6 hSA7 rAb Gb F7 hgs6 rA6 rB6 rC6 hA6 hAB6 hAC6 xk6 HVK hW25 hW12 hGb
    go_wp2_with (rw [← HW6.out]; clear HW6)
    clear z1 z2
    refine wp_region_K (fun _ => true) (fun _ : World => True) (by kernel_rfl) ?_
    obtain ⟨Wd, hWd⟩ : ∃ Wd, Wd = W6.drew := ⟨_, rfl⟩
    have G7 : Fr W6 Wd (fun _ => False) := by rw [hWd]; exact Fr.drew _ _
    rw [← hWd]
    clear hWd
    have hS : (fun _ : World => True) Wd := trivial
    refine wpAnyK_takeTo 0 (some 91) (.pointer (some ⟨dg, 0, none⟩)) [12, 13, 14] rfl rfl (by kernel_rfl) (by kernel_rfl) (by kernel_rfl) (by kernel_rfl) (fun _ _ _ h => h) hS (Or.inl ⟨rfl, fun w1 hw1 => by go_simp⟩) ?_
    simp only [Act.put, List.setIfInBounds_toArray, List.set_cons_zero, List.set_cons_succ]
    clear hS
    refine wpAnyK_weak (S := fun U : World => Fr Wd U (fun _ => False)) (hold := fun z => decide (z < 11)) _ _ _ _ ?_
    have hS : (fun U : World => Fr Wd U (fun _ => False)) Wd := Fr.refl _ _
    have hSx : ∀ V, Fr Wd V (fun _ => False) → V.cell? ⟨dg, 1, none⟩ = some (.slice (some ⟨gb, 0, none⟩) nE cE) ∧ True := fun V hV => by
      have hd := G7.two hV
      exact ⟨hd.cell (fun h => h) xB7, trivial⟩
    clear xB7
    refine wpAnyK_takeTo 1 (some 92) (.pointer (some ⟨dg, 0, none⟩)) [2, 3, 4, 11, 12, 13, 14] rfl rfl (by kernel_rfl) (by kernel_rfl) (by kernel_rfl) (by kernel_rfl) (fun _ _ _ h => h) hS (Or.inl ⟨rfl, fun w1 hw1 => by obtain ⟨q0, _⟩ := hSx _ hw1; go_simp⟩) ?_
    simp only [Act.put, List.setIfInBounds_toArray, List.set_cons_zero, List.set_cons_succ]
    refine wpAnyK_takeTo 2 (some 93) (.pointer (some ⟨dg, 0, none⟩)) [3, 4, 11, 12, 13, 14] rfl rfl (by kernel_rfl) (by kernel_rfl) (by kernel_rfl) (by kernel_rfl) (fun _ _ _ h => h) hS (Or.inl ⟨rfl, fun w1 hw1 => by obtain ⟨q0, _⟩ := hSx _ hw1; go_simp⟩) ?_
    simp only [Act.put, List.setIfInBounds_toArray, List.set_cons_zero, List.set_cons_succ]
    refine wpAnyK_takeTo 3 (some 94) (.pointer (some ⟨dg, 1, none⟩)) [4, 11, 12, 13, 14] rfl rfl (by kernel_rfl) (by kernel_rfl) (by kernel_rfl) (by kernel_rfl) (fun _ _ _ h => h) hS (Or.inl ⟨rfl, fun w1 hw1 => by obtain ⟨q0, _⟩ := hSx _ hw1; go_simp⟩) ?_
    simp only [Act.put, List.setIfInBounds_toArray, List.set_cons_zero, List.set_cons_succ]
    refine wpAnyK_takeTo 4 (some 95) (.slice (some ⟨gb, 0, none⟩) nE cE) [11, 12, 13, 14] rfl rfl (by kernel_rfl) (by kernel_rfl) (by kernel_rfl) (by kernel_rfl) (fun _ _ _ h => h) hS (Or.inl ⟨rfl, fun w1 hw1 => by obtain ⟨q0, _⟩ := hSx _ hw1; go_simp⟩) ?_
    simp only [Act.put, List.setIfInBounds_toArray, List.set_cons_zero, List.set_cons_succ]
    refine wpAnyK_takeTo 5 (some 96) (.int .i64 (mid : Int)) [11, 12, 13, 14] rfl rfl (by kernel_rfl) (by kernel_rfl) (by kernel_rfl) (by kernel_rfl) (fun _ _ _ h => h) hS (Or.inl ⟨rfl, fun w1 hw1 => by obtain ⟨q0, _⟩ := hSx _ hw1; go_simp⟩) ?_
    simp only [Act.put, List.setIfInBounds_toArray, List.set_cons_zero, List.set_cons_succ]
    refine wpAnyK_takeTo 6 (some 97) (.pointer (some ⟨dg, 0, none⟩)) [7, 8, 9, 10, 11, 12, 13, 14] rfl rfl (by kernel_rfl) (by kernel_rfl) (by kernel_rfl) (by kernel_rfl) (fun _ _ _ h => h) hS (Or.inl ⟨rfl, fun w1 hw1 => by obtain ⟨q0, _⟩ := hSx _ hw1; go_simp⟩) ?_
    simp only [Act.put, List.setIfInBounds_toArray, List.set_cons_zero, List.set_cons_succ]
    refine wpAnyK_takeTo 7 (some 98) (.pointer (some ⟨dg, 0, none⟩)) [8, 9, 10, 11, 12, 13, 14] rfl rfl (by kernel_rfl) (by kernel_rfl) (by kernel_rfl) (by kernel_rfl) (fun _ _ _ h => h) hS (Or.inl ⟨rfl, fun w1 hw1 => by obtain ⟨q0, _⟩ := hSx _ hw1; go_simp⟩) ?_
    simp only [Act.put, List.setIfInBounds_toArray, List.set_cons_zero, List.set_cons_succ]
    refine wpAnyK_takeTo 8 (some 99) (.pointer (some ⟨dg, 1, none⟩)) [9, 10, 11, 12, 13, 14] rfl rfl (by kernel_rfl) (by kernel_rfl) (by kernel_rfl) (by kernel_rfl) (fun _ _ _ h => h) hS (Or.inl ⟨rfl, fun w1 hw1 => by obtain ⟨q0, _⟩ := hSx _ hw1; go_simp⟩) ?_
    simp only [Act.put, List.setIfInBounds_toArray, List.set_cons_zero, List.set_cons_succ]
    refine wpAnyK_takeTo 9 (some 100) (.slice (some ⟨gb, 0, none⟩) nE cE) [10, 11, 12, 13, 14] rfl rfl (by kernel_rfl) (by kernel_rfl) (by kernel_rfl) (by kernel_rfl) (fun _ _ _ h => h) hS (Or.inl ⟨rfl, fun w1 hw1 => by obtain ⟨q0, _⟩ := hSx _ hw1; go_simp⟩) ?_
    simp only [Act.put, List.setIfInBounds_toArray, List.set_cons_zero, List.set_cons_succ]
    refine wpAnyK_takeTo 10 (some 101) (.int .i64 (nE : Int)) [11, 12, 13, 14] rfl rfl (by kernel_rfl) (by kernel_rfl) (by kernel_rfl) (by kernel_rfl) (fun _ _ _ h => h) hS (Or.inl ⟨rfl, fun w1 hw1 => by obtain ⟨q0, _⟩ := hSx _ hw1; go_simp⟩) ?_
    simp only [Act.put, List.setIfInBounds_toArray, List.set_cons_zero, List.set_cons_succ]
    refine wpAnyK_one (i := 11) (by kernel_rfl) rfl rfl ?_
    have rB8 := rB7.fr G7 (fun _ _ h => h)
    have hde := deleteI (w := Wd) (.slice (some ⟨gb, 0, none⟩) nE cE) nE (encI Le) (by have h := rB8.row; rw [← HNE.out] at h; exact h) (encI_one _) mid nE mid hmdE (Nat.le_refl _) (by omega) (by omega)
    refine wp_call_to (some 102) rfl 56 #[.slice (some ⟨gb, 0, none⟩) nE cE, .int .i64 (mid : Int), .int .i64 (nE : Int)] (by go_simp) hde ?_
    rintro en V8 ⟨v8, rfl, hr8, hb8, g8⟩
    obtain ⟨a8, c8, rfl⟩ := shape_n hr8
    refine ⟨_, rfl, fun h => by simp at h, ?_⟩
    simp only [Act.put, List.setIfInBounds_toArray, List.set_cons_zero, List.set_cons_succ]
    have htk8 : (encI Le).take (mid * 2) ++ (encI Le).drop (nE * 2) = encI (Le.take mid) := by
      rw [encI_take, encI_drop, List.drop_of_length_le (by rw [← HNE.out]; exact Nat.le_refl _)]; simp [encI]
    rw [htk8] at hr8
    have hlt8 : (Le.take mid).length = mid := by rw [List.length_take, ← HNE.out]; omega
    have hset := rB8.setL (w1 := V8) (lv' := .slice a8 mid c8) (L' := Le.take mid) (by rw [hlt8]; exact hr8) (by have h := g8; rw [HNE.out] at h; exact h) (.inl (by have h := hb8; rw [HNE.out] at h; exact h))
    obtain ⟨W8, hW8⟩ : ∃ W8, W8 = V8.setCell ⟨dg, 1, none⟩ (.slice a8 mid c8) := ⟨_, rfl⟩
    rw [← hW8] at hset
    obtain ⟨rB9, F9, z1, z2⟩ := hset
    rw [← HNE.out] at z1
    have rA9 := (rA7.fr G7 (fun _ _ h => h)).fr F9 hAB7
    have rC9 := (rC7.fr G7 (fun _ _ h => h)).fr F9 (fun k hc hb => hBC5 k hb hc)
    obtain ⟨SB9, hSB9⟩ : ∃ SB9 : Nat → Prop, SB9 = fun k => SB5 k ∨ (Wd.heap.size ≤ k ∧ k < W8.heap.size) := ⟨_, rfl⟩
    rw [← hSB9] at rB9
    have hW17 : W1.heap.size ≤ Wd.heap.size := by have := HF2.out.size; have := HF7.out.size; have := G7.size; omega
    have hB9 : ∀ k, SB9 k → SB k ∨ W1.heap.size ≤ k := fun k hk => by rw [hSB9] at hk; exact grow_from hB5 hW17 k hk
    have hAB9 : ∀ k, SA7 k → ¬ SB9 k := fun k ha hb => by
      rw [hSB9] at hb
      rcases hb with hb | hb
      · exact hAB7 k ha hb
      · have := (rA7.fr G7 (fun _ _ h => h)).lt k ha; omega
    have hBC9 : ∀ k, SB9 k → ¬ SC3 k := fun k hb hc => by
      rw [hSB9] at hb
      exact grow_apart hBC5 (rC7.fr G7 (fun _ _ h => h)).lt k hb hc
    have HF9 := hide (HF7.out.two ((G7.mono (Y := fun k => SA k ∨ SB k ∨ W1.heap.size ≤ k) (fun _ _ h => h.elim)).two (F9.mono (fun k _ h => by
      rcases hB5 k h with h | h
      · exact .inr (.inl h)
      · exact .inr (.inr h)))))
    have HW8 := hide hW8
    have HLT8 := hide hlt8
    clear hde hr8 hb8 g8 htk8 hW8 hSB9 rB8 hS hSx F9 hlt8 rA7 rB7 rC7 hW17 G7
    refine wpAnyK_one (i := 12) (by kernel_rfl) rfl rfl ?_
    go_simp
    refine wpAnyK_one (i := 13) (by kernel_rfl) rfl rfl ?_
    go_simp
    refine wpAnyK_one (i := 14) (by kernel_rfl) rfl rfl ?_
    go_simp
    rw [← HW8.out]
    refine wpAnyK_done (by kernel_rfl) ?_ _
    clear HW8 z1 z2
    have HRES := halve_fin (SA := SA) (SB := SB) hn1 hk1 hnd hkd HIL.out HKL.out HNF.out HFU.out HMD.out HMK.out ho2 HDG.out hg1 hF1 (by rw [← HPG.out]; exact rA9) rB9 rC9 HL5.out (by rw [HGS6.out, HGS.out, HI1.out]) (by rw [HGSE.out, List.map_take]) (by rw [HGSE.out, List.map_drop]) hA7 hB9 hC3 hAB9 hAC7 hBC9 hAX hAY hAK hBX hBY hBK hX1 hY1 (FW1.mono (fun k _ h => HN.out.ky rfl k h)) ((HF2.out.mono (fun _ _ h => h.elim)).two HF9.out)
    go_end0
    exact HRES
end Go.Proofs.YtigkinakhijfoaaGreat
