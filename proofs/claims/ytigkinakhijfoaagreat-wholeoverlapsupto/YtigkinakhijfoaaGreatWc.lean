/- fromLeft: the left neighbour's last key goes up, the key between comes down. -/
import Derived.Test.YtigkinakhijfoaaGreatW
namespace Go.Proofs.YtigkinakhijfoaaGreat
open Go.RowKit
set_option maxRecDepth 100000
set_option linter.unusedVariables false
set_option linter.unusedSimpArgs false

set_option maxHeartbeats 16000000 in
theorem fromLeft_any {o : Nat} {cur : Int} {h lo : Nat} {w : World} {p e e2 : Kd} {lv kv : Value} {L : List It} {ks : List Kd} {t1 t2 : Int} {le ke lr kr : Value} {Le Lr : List It} {kse ksr : List Kd} {tb root : Nat} {cnt : Int} (hT : TreeB w tb o cnt root cur) (htb : ¬ p.X tb) (hN : NodeV o cur lo w p cur lv kv L ks) (hK : KOk o cur (h + 1) w L ks) {i i1 : Nat} (hi1 : i1 = i + 1) {x : It} (hxx : L[i]? = some x) (hi : ks[i]? = some e) (hi2 : ks[i + 1]? = some e2) (hNe : NodeV o cur (o - 1) w e t1 le ke Le kse) (hKe : KOk o cur h w Le kse) (hNr : NodeV o cur (o - 1) w e2 t2 lr kr Lr ksr) (hKr : KOk o cur h w Lr ksr) (hLe : o ≤ Le.length) (hLr : Lr.length = o - 1) (ho2 : 2 ≤ o) (ho : o ≤ 64) :
    Calls Tryz.prog 93 #[.pointer (some ⟨tb, 0, none⟩), .pointer (some ⟨p.g, 0, none⟩), .int .i64 (i1 : Int)] w (RotQ o cur h lo L (ks.take i) (ks.drop (i + 2)) i (Le.length - 1) (Lr.length + 1) (Le ++ x :: Lr) w p) := by
  have HXX := hide hxx
  clear hxx
  have hil : i + 1 < ks.length := (List.getElem?_eq_some_iff.1 hi2).1
  have hkl : ks.length = L.length + 1 := hK.1
  have HKD := hide (kid_any hT hN hK hi hNe hKe ho)
  obtain ⟨la, lc, ka, kc', rfl, rfl⟩ := hN.shape
  obtain ⟨pg, hpg⟩ : ∃ pg, pg = p.g := ⟨_, rfl⟩
  rw [← hpg] at HKD ⊢
  have hmem2 : e2 ∈ ks := List.mem_of_getElem? hi2
  have hi1i : (i1 : Int) - 1 = (i : Int) := by omega
  have hib : i1 ≤ 128 := by have := hN.high; omega
  have HT := hide hT
  have HTB := hide htb
  have HN := hide hN
  have HPG := hide hpg
  have HI1 := hide hi1
  have HI2 := hide hi2
  have HIL := hide hil
  have HKL := hide hkl
  have HNR := hide hNr
  have HKR := hide hKr
  have HLE := hide hLe
  have HLR := hide hLr
  clear hT htb hN hK hi hi2 hNe hKe hpg hil hkl hi1 hNr hKr hLe hLr
  go_enter Tryz.func93, Tryz.ntmps93
  go_wp2_with fail
  refine HKD.out.mono ?_
  rintro en W1 ⟨p1, d, lb, kb, rfl, hg1, hF1, hn1, hk1, hnd, hkd, hFd, hX1, hY1, hXd, hYd, f1⟩
  have hpg1 : p1.g = pg := by rw [hg1, HPG.out]
  have hd2 : (ks.set i d)[i + 1]? = some e2 := by rw [List.getElem?_set, if_neg (by omega)]; exact HI2.out
  have hnr : NodeV o cur (o - 1) W1 e2 t2 lr kr Lr ksr := HNR.out.fr f1 (fun k hk hz => HN.out.apk e2 hmem2 k hz hk)
  have hkr : KOk o cur h W1 Lr ksr := HKR.out.fr f1 (fun x hx k hk hz => HN.out.apk e2 hmem2 k hz (HNR.out.sx x hx k hk))
  have hil := HIL.out
  have hdm : (ks.set i d)[i]? = some d := List.getElem?_set_self (by omega)
  have HKE := hide (kid_any (HT.out.fr f1 (fun hz => HTB.out (HN.out.kx _ hz))) hn1 hk1 hd2 hnr hkr ho)
  rw [hpg1, ← HI1.out] at HKE
  obtain ⟨dg, hdg⟩ : ∃ dg, dg = d.g := ⟨_, rfl⟩
  rw [← hdg]
  have HN1 := hide hn1
  have HND := hide hnd
  have HKD1 := hide hkd
  have HX1 := hide hX1
  have HY1 := hide hY1
  have HF1 := hide hF1
  have HG1 := hide hg1
  have HPG1 := hide hpg1
  have HDG := hide hdg
  have HDM := hide hdm
  have HD2 := hide hd2
  have Hf1 := hide f1
  clear hn1 hk1 hnd hkd hFd hX1 hY1 hXd hYd hF1 hg1 hpg1 hdg hd2 hnr hkr f1 HKD hil hdm
  go_wp2_with fail
  refine HKE.out.mono ?_
  rintro en W2 ⟨p2, d2, lr2, kr2, rfl, hg2, hF2, hn2, hk2, hnd2, hkd2, hFd2, hX2, hY2, hXd2, hYd2, f2⟩
  have hndd : NodeV o cur (o - 1) W2 d cur lb kb Le kse := HND.out.fr f2 (fun k hk hz => HN1.out.apk d (List.mem_of_getElem? HDM.out) k hz hk)
  have hkdd : KOk o cur h W2 Le kse := HKD1.out.fr f2 (fun x hx k hk hz => HN1.out.apk d (List.mem_of_getElem? HDM.out) k hz (HND.out.sx x hx k hk))
  obtain ⟨rg, hrg⟩ : ∃ rg, rg = d2.g := ⟨_, rfl⟩
  rw [← hrg]
  have hpg2 : p2.g = pg := by rw [hg2, HPG1.out]
  have hse : ks.drop (i + 1) = e2 :: ks.drop (i + 2) := by
    obtain ⟨hl, hv⟩ := List.getElem?_eq_some_iff.1 HI2.out
    rw [← hv, List.getElem_cons_drop]
  have hset2 : (ks.set i d).set i1 d2 = ks.take i ++ d :: d2 :: ks.drop (i + 2) := by
    have hil := HIL.out
    have hl : (ks.take i ++ [d]).length = i + 1 := by simp; omega
    have e0 : ks.set i d = (ks.take i ++ [d]) ++ e2 :: ks.drop (i + 2) := by rw [List.set_eq_take_append_cons_drop, if_pos (by omega), hse]; simp
    rw [e0, HI1.out, List.set_append_right _ _ (by rw [hl]; exact Nat.le_refl _), hl, Nat.sub_self]
    simp
  rw [hset2] at hn2 hk2
  clear hse hset2
  obtain ⟨K2, hK2⟩ : ∃ K2, K2 = ks.take i ++ d :: d2 :: ks.drop (i + 2) := ⟨_, rfl⟩
  have hdm : d ∈ ks.take i ++ d :: d2 :: ks.drop (i + 2) := by simp
  have hrm : d2 ∈ ks.take i ++ d :: d2 :: ks.drop (i + 2) := by simp
  have hde : ∀ k, d.X k → ¬ d2.X k := by
    have h1 : Apart ([d] ++ (d2 :: ks.drop (i + 2))) := Apart.right hn2.apart
    exact h1.cross d (by simp) d2 (by simp)
  clear hK2 K2
  obtain ⟨la1, lc1, ka1, kc1, rfl, rfl⟩ := hndd.shape
  obtain ⟨ra, lc2, rk, rkc, rfl, rfl⟩ := hnd2.shape
  obtain ⟨ne, hne⟩ : ∃ ne, ne = Le.length - 1 := ⟨_, rfl⟩
  obtain ⟨⟨yk, yv⟩, hx0⟩ : ∃ x, Le[ne]? = some x := ⟨_, List.getElem?_eq_getElem (by have := HLE.out; omega)⟩
  obtain ⟨gb, rfl, c0⟩ := row_cell hndd.row (encI_get Le ne _ hx0).1
  obtain ⟨⟨mk, mv⟩, hmk⟩ : ∃ x, L[i]? = some x := ⟨_, List.getElem?_eq_getElem (by have := HKL.out; have := HIL.out; omega)⟩
  obtain ⟨gl, rfl, ci⟩ := row_cell hn2.row (encI_get L i _ hmk).1
  obtain ⟨g6, e6, cj⟩ := row_cell hn2.row (encI_get L i _ hmk).2
  cases e6
  have HMK := hide hmk
  have HX0 := hide hx0
  have HNE := hide hne
  dsimp only at ci cj
  clear hmk hx0 c0 hne
  have sA := hn2.setX
  have sB := hndd.setX
  have sR := hnd2.setX
  have rA := hn2.raw
  have rB := hndd.raw
  have rR := hnd2.raw
  rw [hpg2] at rA sA
  rw [← HDG.out] at rB sB
  rw [← hrg] at rR sR
  obtain ⟨n, hn⟩ : ∃ n, L.length = n := ⟨_, rfl⟩
  obtain ⟨n1, hn1'⟩ : ∃ n1, Le.length = n1 := ⟨_, rfl⟩
  obtain ⟨n2, hn2'⟩ : ∃ n2, Lr.length = n2 := ⟨_, rfl⟩
  obtain ⟨m, hm⟩ : ∃ m, ks.length = m := ⟨_, rfl⟩
  obtain ⟨m1, hm1⟩ : ∃ m1, kse.length = m1 := ⟨_, rfl⟩
  obtain ⟨m2, hm2⟩ : ∃ m2, ksr.length = m2 := ⟨_, rfl⟩
  have hin : i < n := by have := HKL.out; have := HIL.out; omega
  have hnb : n ≤ 127 := by have := hn2.high; omega
  have hn1b : n1 ≤ 127 := by have := hndd.high; omega
  have hn2b : n2 ≤ 127 := by have := hnd2.high; omega
  have hm1b : m1 ≤ 128 := by rcases hkdd.len with ⟨_, h1⟩ | ⟨_, h1⟩ <;> omega
  have hm2b : m2 ≤ 128 := by rcases hkd2.len with ⟨_, h1⟩ | ⟨_, h1⟩ <;> omega
  obtain ⟨SA, hSA⟩ : ∃ SA : Nat → Prop, SA = SetOf pg (.slice (some ⟨gl, 0, none⟩) L.length lc) (.slice ka ks.length kc') := ⟨_, rfl⟩
  obtain ⟨SB, hSB⟩ : ∃ SB : Nat → Prop, SB = SetOf dg (.slice (some ⟨gb, 0, none⟩) Le.length lc1) (.slice ka1 kse.length kc1) := ⟨_, rfl⟩
  obtain ⟨SR, hSR⟩ : ∃ SR : Nat → Prop, SR = SetOf rg (.slice ra Lr.length lc2) (.slice rk ksr.length rkc) := ⟨_, rfl⟩
  rw [← hSA] at rA sA
  rw [← hSB] at rB sB
  rw [← hSR] at rR sR
  rw [hn, hm] at rA
  rw [hn1', hm1] at rB
  rw [hn2', hm2] at rR
  obtain ⟨gA, hgA⟩ : ∃ gA, gA = (ks.take i ++ d :: d2 :: ks.drop (i + 2)).map Kd.g := ⟨_, rfl⟩
  obtain ⟨gB, hgB⟩ : ∃ gB, gB = kse.map Kd.g := ⟨_, rfl⟩
  obtain ⟨gR, hgR⟩ : ∃ gR, gR = ksr.map Kd.g := ⟨_, rfl⟩
  rw [← hgA] at rA
  rw [← hgB] at rB
  rw [← hgR] at rR
  have hlB : gB.length = m1 := by rw [hgB, List.length_map]; exact hm1
  have hlR : gR.length = m2 := by rw [hgR, List.length_map]; exact hm2
  have H3 : T3 cur W2 SB SA SR dg (.slice (some ⟨gb, 0, none⟩) n1 lc1) (.slice ka1 m1 kc1) Le gB pg (.slice (some ⟨gl, 0, none⟩) n lc) (.slice ka m kc') L gA rg (.slice ra n2 lc2) (.slice rk m2 rkc) Lr gR W2 :=
    ⟨SB, SA, SR, rB, rA, rR, fun k h => .inl h, fun k h => .inl h, fun k h => .inl h, fun k hb ha => sA.2.2 d hdm k (sB.1 k hb) ha, fun k ha hb => hde k (sB.1 k ha) (sR.1 k hb), fun k ha hb => sA.2.2 d2 hrm k (sR.1 k hb) ha, Fr.refl _ _⟩
  have HSA := hide sA
  have HSB := hide sB
  have HSR := hide sR
  have HN2 := hide hn2
  have HK2 := hide hk2
  have HND2 := hide hnd2
  have HKD2 := hide hkd2
  have HNDD := hide hndd
  have HKDD := hide hkdd
  have HX2 := hide hX2
  have HY2 := hide hY2
  have HF2 := hide hF2
  have HPG2 := hide hpg2
  have HRG := hide hrg
  have HLN := hide hn
  have HLN1 := hide hn1'
  have HLN2 := hide hn2'
  have HM1 := hide hm1
  have HM2 := hide hm2
  have HGA := hide hgA
  have HGB := hide hgB
  have HGR := hide hgR
  have HlB := hide hlB
  have HlR := hide hlR
  have Hf2 := hide f2
  clear sA sB sR hn2 hk2 hnd2 hkd2 hndd hkdd hX2 hY2 hF2 hg2 hpg2 hrg hn hn1' hn2' hm hm1 hm2 hgA hgB hgR hlB hlR hSA hSB hSR f2 rA rB rR hFd2 hXd2 hYd2 hrm hdm hde HKE hmem2
  obtain ⟨_, vB⟩ := H3.raw
  obtain ⟨_, vA⟩ := H3.ba.raw
  obtain ⟨_, vR⟩ := H3.cb.ba.raw
  have hS0 : SMr dg pg gl i rg (.slice (some ⟨gb, 0, none⟩) n1 lc1) (.slice (some ⟨gl, 0, none⟩) n lc) (.slice ra n2 lc2) mk mv W2 := ⟨vB.cells.2.1, vA.cells.2.1, ci, cj, vR.cells.2.1⟩
  clear vB vA vR ci cj
  replace H3 := H3.cb.ba
  go_wp2_with fail
  refine wp_region_K (fun z => decide (z < 15)) (SMr dg pg gl i rg (.slice (some ⟨gb, 0, none⟩) n1 lc1) (.slice (some ⟨gl, 0, none⟩) n lc) (.slice ra n2 lc2) mk mv) (by kernel_rfl) ?_
  obtain ⟨Wd, hWd⟩ : ∃ Wd, Wd = W2.drew := ⟨_, rfl⟩
  have F1 : Fr W2 Wd (fun _ => False) := by rw [hWd]; exact Fr.drew _ _
  rw [← hWd]
  clear hWd
  have hS : SMr dg pg gl i rg (.slice (some ⟨gb, 0, none⟩) n1 lc1) (.slice (some ⟨gl, 0, none⟩) n lc) (.slice ra n2 lc2) mk mv Wd := hS0.fr F1 (fun h => h) (fun h => h) (fun h => h) (fun h => h)
  have H3d := H3.quiet F1
  clear F1 H3 hS0
  refine wpAnyK_takeTo 0 (some 18) (.pointer (some ⟨rg, 0, none⟩)) [15, 16, 17] rfl rfl (by kernel_rfl) (by kernel_rfl) (by kernel_rfl) (by kernel_rfl) (fun _ _ _ h => h) hS (Or.inl ⟨rfl, fun w1 hw1 => by obtain ⟨q0, q1, q2, q3, q4⟩ := hw1; go_simp <;> try (rw [wrap_nat (by omega)])⟩) ?_
  simp only [Act.put, List.setIfInBounds_toArray, List.set_cons_zero, List.set_cons_succ]
  refine wpAnyK_takeTo 1 (some 19) (.pointer (some ⟨rg, 0, none⟩)) [2, 3, 4, 14, 15, 16, 17] rfl rfl (by kernel_rfl) (by kernel_rfl) (by kernel_rfl) (by kernel_rfl) (fun _ _ _ h => h) hS (Or.inl ⟨rfl, fun w1 hw1 => by obtain ⟨q0, q1, q2, q3, q4⟩ := hw1; go_simp <;> try (rw [wrap_nat (by omega)])⟩) ?_
  simp only [Act.put, List.setIfInBounds_toArray, List.set_cons_zero, List.set_cons_succ]
  refine wpAnyK_takeTo 2 (some 20) (.pointer (some ⟨rg, 0, none⟩)) [3, 4, 14, 15, 16, 17] rfl rfl (by kernel_rfl) (by kernel_rfl) (by kernel_rfl) (by kernel_rfl) (fun _ _ _ h => h) hS (Or.inl ⟨rfl, fun w1 hw1 => by obtain ⟨q0, q1, q2, q3, q4⟩ := hw1; go_simp <;> try (rw [wrap_nat (by omega)])⟩) ?_
  simp only [Act.put, List.setIfInBounds_toArray, List.set_cons_zero, List.set_cons_succ]
  refine wpAnyK_takeTo 3 (some 21) (.pointer (some ⟨rg, 1, none⟩)) [4, 14, 15, 16, 17] rfl rfl (by kernel_rfl) (by kernel_rfl) (by kernel_rfl) (by kernel_rfl) (fun _ _ _ h => h) hS (Or.inl ⟨rfl, fun w1 hw1 => by obtain ⟨q0, q1, q2, q3, q4⟩ := hw1; go_simp <;> try (rw [wrap_nat (by omega)])⟩) ?_
  simp only [Act.put, List.setIfInBounds_toArray, List.set_cons_zero, List.set_cons_succ]
  refine wpAnyK_takeTo 4 (some 22) (.slice ra n2 lc2) [14, 15, 16, 17] rfl rfl (by kernel_rfl) (by kernel_rfl) (by kernel_rfl) (by kernel_rfl) (fun _ _ _ h => h) hS (Or.inl ⟨rfl, fun w1 hw1 => by obtain ⟨q0, q1, q2, q3, q4⟩ := hw1; go_simp <;> try (rw [wrap_nat (by omega)])⟩) ?_
  simp only [Act.put, List.setIfInBounds_toArray, List.set_cons_zero, List.set_cons_succ]
  refine wpAnyK_takeTo 5 (some 23) (.pointer (some ⟨pg, 0, none⟩)) [6, 7, 8, 11, 12, 13, 14, 15, 16, 17] rfl rfl (by kernel_rfl) (by kernel_rfl) (by kernel_rfl) (by kernel_rfl) (fun _ _ _ h => h) hS (Or.inl ⟨rfl, fun w1 hw1 => by obtain ⟨q0, q1, q2, q3, q4⟩ := hw1; go_simp <;> try (rw [wrap_nat (by omega)])⟩) ?_
  simp only [Act.put, List.setIfInBounds_toArray, List.set_cons_zero, List.set_cons_succ]
  refine wpAnyK_takeTo 6 (some 24) (.pointer (some ⟨pg, 0, none⟩)) [7, 8, 11, 12, 13, 14, 15, 16, 17] rfl rfl (by kernel_rfl) (by kernel_rfl) (by kernel_rfl) (by kernel_rfl) (fun _ _ _ h => h) hS (Or.inl ⟨rfl, fun w1 hw1 => by obtain ⟨q0, q1, q2, q3, q4⟩ := hw1; go_simp <;> try (rw [wrap_nat (by omega)])⟩) ?_
  simp only [Act.put, List.setIfInBounds_toArray, List.set_cons_zero, List.set_cons_succ]
  refine wpAnyK_takeTo 7 (some 25) (.pointer (some ⟨pg, 1, none⟩)) [8, 11, 12, 13, 14, 15, 16, 17] rfl rfl (by kernel_rfl) (by kernel_rfl) (by kernel_rfl) (by kernel_rfl) (fun _ _ _ h => h) hS (Or.inl ⟨rfl, fun w1 hw1 => by obtain ⟨q0, q1, q2, q3, q4⟩ := hw1; go_simp <;> try (rw [wrap_nat (by omega)])⟩) ?_
  simp only [Act.put, List.setIfInBounds_toArray, List.set_cons_zero, List.set_cons_succ]
  refine wpAnyK_takeTo 8 (some 26) (.slice (some ⟨gl, 0, none⟩) n lc) [11, 12, 13, 14, 15, 16, 17] rfl rfl (by kernel_rfl) (by kernel_rfl) (by kernel_rfl) (by kernel_rfl) (fun _ _ _ h => h) hS (Or.inl ⟨rfl, fun w1 hw1 => by obtain ⟨q0, q1, q2, q3, q4⟩ := hw1; go_simp <;> try (rw [wrap_nat (by omega)])⟩) ?_
  simp only [Act.put, List.setIfInBounds_toArray, List.set_cons_zero, List.set_cons_succ]
  refine wpAnyK_takeTo 9 (some 27) (.int .i64 (i1 : Int)) [10, 11, 12, 13, 14, 15, 16, 17] rfl rfl (by kernel_rfl) (by kernel_rfl) (by kernel_rfl) (by kernel_rfl) (fun _ _ _ h => h) hS (Or.inl ⟨rfl, fun w1 hw1 => by obtain ⟨q0, q1, q2, q3, q4⟩ := hw1; go_simp <;> try (rw [wrap_nat (by omega)])⟩) ?_
  simp only [Act.put, List.setIfInBounds_toArray, List.set_cons_zero, List.set_cons_succ]
  refine wpAnyK_takeTo 10 (some 28) (.int .i64 (i : Int)) [11, 12, 13, 14, 15, 16, 17] rfl rfl (by kernel_rfl) (by kernel_rfl) (by kernel_rfl) (by kernel_rfl) (fun _ _ _ h => h) hS (Or.inl ⟨rfl, fun w1 hw1 => by obtain ⟨q0, q1, q2, q3, q4⟩ := hw1; go_simp <;> try (rw [wrap_nat (by omega)])⟩) ?_
  simp only [Act.put, List.setIfInBounds_toArray, List.set_cons_zero, List.set_cons_succ]
  refine wpAnyK_takeTo 11 (some 29) (.pointer (some ⟨gl, i * 2, none⟩)) [12, 13, 14, 15, 16, 17] rfl rfl (by kernel_rfl) (by kernel_rfl) (by kernel_rfl) (by kernel_rfl) (fun _ _ _ h => h) hS (Or.inl ⟨rfl, fun w1 hw1 => by obtain ⟨q0, q1, q2, q3, q4⟩ := hw1; go_simp <;> try (rw [wrap_nat (by omega)])⟩) ?_
  simp only [Act.put, List.setIfInBounds_toArray, List.set_cons_zero, List.set_cons_succ]
  refine wpAnyK_takeTo 12 (some 30) (.agg #[.string mk, .int .i64 mv]) [13, 14, 15, 16, 17] rfl rfl (by kernel_rfl) (by kernel_rfl) (by kernel_rfl) (by kernel_rfl) (fun _ _ _ h => h) hS (Or.inl ⟨rfl, fun w1 hw1 => by obtain ⟨q0, q1, q2, q3, q4⟩ := hw1; go_simp <;> try (rw [wrap_nat (by omega)])⟩) ?_
  simp only [Act.put, List.setIfInBounds_toArray, List.set_cons_zero, List.set_cons_succ]
  have hk := H3d.keepL
  obtain ⟨SRr, vR⟩ := H3d.raw
  have GA0 := Fr.alloc Wd (.cells #[.string mk, .int .i64 mv] 106) (fun _ => False)
  obtain ⟨VB, hVB⟩ : ∃ VB, VB = Wd.heap.size := ⟨_, rfl⟩
  obtain ⟨Wa, hWa⟩ : ∃ Wa, Wa = Wd.alloc (.cells #[.string mk, .int .i64 mv] 106) := ⟨_, rfl⟩
  have ba : Wa.heap[VB]? = some (.cells [Value.string mk, .int .i64 mv].toArray 106 (0, 0)) := by rw [hWa, hVB]; exact heap_alloc_new Wd _
  rw [← hWa] at GA0
  have hnb2 : (Value.slice ra n2 lc2).ownBlock ≠ some VB := fun h => by have := vR.lt VB (vR.ins VB (.inr (.inl h))); omega
  have vRa := vR.fr GA0 (fun _ _ h => h)
  have hins := insertI (w := Wa) (.slice ra n2 lc2) n2 (encI Lr) (by have h := vRa.row; rw [HLN2.out] at h; exact h) (encI_one Lr) (by omega) 0 (by omega) VB [.string mk, .int .i64 mv] ba rfl (fun u hu => by simp at hu; rcases hu with rfl | rfl <;> rfl) hnb2
  have H3e := H3d.quiet GA0
  have hSa : SMr dg pg gl i rg (.slice (some ⟨gb, 0, none⟩) n1 lc1) (.slice (some ⟨gl, 0, none⟩) n lc) (.slice ra n2 lc2) mk mv Wa := hS.fr GA0 (fun h => h) (fun h => h) (fun h => h) (fun h => h)
  have hb1 : ∀ {Z : World}, Fr Wa Z (fun k => (Value.slice ra n2 lc2).ownBlock = some k) → SMr dg pg gl i rg (.slice (some ⟨gb, 0, none⟩) n1 lc1) (.slice (some ⟨gl, 0, none⟩) n lc) (.slice ra n2 lc2) mk mv Z := fun {Z} f => hSa.fr f (hk _ (.inr (.inr (.inl (.inl rfl))))) (hk _ (.inr (.inr (.inr (.inl rfl))))) (hk _ (.inr (.inr (.inr (.inr (.inl rfl)))))) (hk _ (.inl rfl))
  have HWa := hide hWa
  have HVB := hide hVB
  clear hWa hVB GA0 hk vR vRa H3d hnb2 ba
  refine wpAnyK_one (i := 13) (by kernel_rfl) rfl rfl ?_
  go_simp
  rw [← HWa.out, ← HVB.out]
  refine ⟨hSa, ?_⟩
  refine wpAnyK_one (i := 14) (by kernel_rfl) rfl rfl ?_
  refine wp_call_to (some 32) rfl 54 #[.slice ra n2 lc2, .int .i64 0, .slice (some ⟨VB, 0, none⟩) 1 1] (by go_simp) hins ?_
  rintro en W3 ⟨v3, rfl, hr3, hf3, g3⟩
  obtain ⟨a3, c3, rfl⟩ := shape_n hr3
  refine ⟨_, rfl, fun _ => hb1 g3, ?_⟩
  simp only [Act.put, List.setIfInBounds_toArray, List.set_cons_zero, List.set_cons_succ]
  obtain ⟨n3, hn3⟩ : ∃ n3, n3 = n2 + 1 := ⟨_, rfl⟩
  rw [← hn3] at hr3 hf3 ⊢
  rw [show (encI Lr).take (0 * 2) ++ [Value.string mk, .int .i64 mv] ++ (encI Lr).drop (0 * 2) = encI (⟨mk, mv⟩ :: Lr) by simp [encI]] at hr3
  have hset := H3e.setL (w1 := W3) (la' := .slice a3 n3 c3) (LA' := ⟨mk, mv⟩ :: Lr) (by rw [show ((⟨mk, mv⟩ : It) :: Lr).length = n3 by rw [List.length_cons, HLN2.out, hn3]]; exact hr3) g3 hf3
  obtain ⟨W5, hW5⟩ : ∃ W5, W5 = W3.setCell ⟨rg, 1, none⟩ (.slice a3 n3 c3) := ⟨_, rfl⟩
  rw [← hW5] at hset
  obtain ⟨H3, z1, z2⟩ := hset
  have HN3 := hide hn3
  have HW5 := hide hW5
  clear hn3 hW5 hb1 hS hSa hr3 hf3 g3 H3e hins
  refine wpAnyK_one (i := 15) (by kernel_rfl) rfl rfl ?_
  go_simp
  refine wpAnyK_one (i := 16) (by kernel_rfl) rfl rfl ?_
  go_simp
  refine wpAnyK_one (i := 17) (by kernel_rfl) rfl rfl ?_
  go_simp
  rw [← HW5.out]
  refine wpAnyK_done (by kernel_rfl) ?_ _
  clear HW5 z1 z2
  replace H3 := H3.cb.ba
  obtain ⟨_, vA⟩ := H3.raw
  obtain ⟨_, vB⟩ := H3.cb.ba.raw
  have hS0 : SMs pg dg gb ne (.slice (some ⟨gl, 0, none⟩) n lc) (.slice (some ⟨gb, 0, none⟩) n1 lc1) yk yv W5 := ⟨vA.cells.2.1, vB.cells.2.1, by
    obtain ⟨g, e, c⟩ := row_cell (by have h := vB.row; rw [HLN1.out] at h; exact h) (encI_get Le ne _ HX0.out).1
    cases e
    exact c, by
    obtain ⟨g, e, c⟩ := row_cell (by have h := vB.row; rw [HLN1.out] at h; exact h) (encI_get Le ne _ HX0.out).2
    cases e
    exact c⟩
  have xB := vB.cells.2.1
  clear vA vB
  have hgr0 : ne < n1 := by have h := (List.getElem?_eq_some_iff.1 HX0.out).1; rw [HLN1.out] at h; exact h
  have hne1 : ne + 1 = n1 := by have := HNE.out; have := HLN1.out; omega
  have hni1 : (n1 : Int) - 1 = (ne : Int) := by omega
  have HNE1 := hide hne1
  clear hne1
  go_wp2_with fail
  clear xB hni1
  refine wp_region_K (fun z => decide (z < 14)) (SMs pg dg gb ne (.slice (some ⟨gl, 0, none⟩) n lc) (.slice (some ⟨gb, 0, none⟩) n1 lc1) yk yv) (by kernel_rfl) ?_
  obtain ⟨Wd, hWd⟩ : ∃ Wd, Wd = W5.drew := ⟨_, rfl⟩
  have F1 : Fr W5 Wd (fun _ => False) := by rw [hWd]; exact Fr.drew _ _
  rw [← hWd]
  clear hWd
  have hS : SMs pg dg gb ne (.slice (some ⟨gl, 0, none⟩) n lc) (.slice (some ⟨gb, 0, none⟩) n1 lc1) yk yv Wd := hS0.fr F1
  have H3d := H3.quiet F1
  clear F1 H3 hS0
  refine wpAnyK_takeTo 0 (some 41) (.pointer (some ⟨pg, 0, none⟩)) [1, 2, 3, 13, 14] rfl rfl (by kernel_rfl) (by kernel_rfl) (by kernel_rfl) (by kernel_rfl) (fun _ _ _ h => h) hS (Or.inl ⟨rfl, fun w1 hw1 => by obtain ⟨q0, q1, q2, q3⟩ := hw1; go_simp <;> try (rw [wrap_nat (by omega)])⟩) ?_
  simp only [Act.put, List.setIfInBounds_toArray, List.set_cons_zero, List.set_cons_succ]
  refine wpAnyK_takeTo 1 (some 42) (.pointer (some ⟨pg, 0, none⟩)) [2, 3, 13, 14] rfl rfl (by kernel_rfl) (by kernel_rfl) (by kernel_rfl) (by kernel_rfl) (fun _ _ _ h => h) hS (Or.inl ⟨rfl, fun w1 hw1 => by obtain ⟨q0, q1, q2, q3⟩ := hw1; go_simp <;> try (rw [wrap_nat (by omega)])⟩) ?_
  simp only [Act.put, List.setIfInBounds_toArray, List.set_cons_zero, List.set_cons_succ]
  refine wpAnyK_takeTo 2 (some 43) (.pointer (some ⟨pg, 1, none⟩)) [3, 13, 14] rfl rfl (by kernel_rfl) (by kernel_rfl) (by kernel_rfl) (by kernel_rfl) (fun _ _ _ h => h) hS (Or.inl ⟨rfl, fun w1 hw1 => by obtain ⟨q0, q1, q2, q3⟩ := hw1; go_simp <;> try (rw [wrap_nat (by omega)])⟩) ?_
  simp only [Act.put, List.setIfInBounds_toArray, List.set_cons_zero, List.set_cons_succ]
  refine wpAnyK_takeTo 3 (some 44) (.slice (some ⟨gl, 0, none⟩) n lc) [13, 14] rfl rfl (by kernel_rfl) (by kernel_rfl) (by kernel_rfl) (by kernel_rfl) (fun _ _ _ h => h) hS (Or.inl ⟨rfl, fun w1 hw1 => by obtain ⟨q0, q1, q2, q3⟩ := hw1; go_simp <;> try (rw [wrap_nat (by omega)])⟩) ?_
  simp only [Act.put, List.setIfInBounds_toArray, List.set_cons_zero, List.set_cons_succ]
  refine wpAnyK_takeTo 4 (some 45) (.int .i64 (i1 : Int)) [5, 13, 14] rfl rfl (by kernel_rfl) (by kernel_rfl) (by kernel_rfl) (by kernel_rfl) (fun _ _ _ h => h) hS (Or.inl ⟨rfl, fun w1 hw1 => by obtain ⟨q0, q1, q2, q3⟩ := hw1; go_simp <;> try (rw [wrap_nat (by omega)])⟩) ?_
  simp only [Act.put, List.setIfInBounds_toArray, List.set_cons_zero, List.set_cons_succ]
  refine wpAnyK_takeTo 5 (some 46) (.int .i64 (i : Int)) [13, 14] rfl rfl (by kernel_rfl) (by kernel_rfl) (by kernel_rfl) (by kernel_rfl) (fun _ _ _ h => h) hS (Or.inl ⟨rfl, fun w1 hw1 => by obtain ⟨q0, q1, q2, q3⟩ := hw1; go_simp <;> try (rw [wrap_nat (by omega)])⟩) ?_
  simp only [Act.put, List.setIfInBounds_toArray, List.set_cons_zero, List.set_cons_succ]
  refine wpAnyK_takeTo 6 (some 47) (.pointer (some ⟨dg, 0, none⟩)) [7, 8, 9, 11, 12, 13, 14] rfl rfl (by kernel_rfl) (by kernel_rfl) (by kernel_rfl) (by kernel_rfl) (fun _ _ _ h => h) hS (Or.inl ⟨rfl, fun w1 hw1 => by obtain ⟨q0, q1, q2, q3⟩ := hw1; go_simp <;> try (rw [wrap_nat (by omega)])⟩) ?_
  simp only [Act.put, List.setIfInBounds_toArray, List.set_cons_zero, List.set_cons_succ]
  refine wpAnyK_takeTo 7 (some 48) (.pointer (some ⟨dg, 0, none⟩)) [8, 9, 11, 12, 13, 14] rfl rfl (by kernel_rfl) (by kernel_rfl) (by kernel_rfl) (by kernel_rfl) (fun _ _ _ h => h) hS (Or.inl ⟨rfl, fun w1 hw1 => by obtain ⟨q0, q1, q2, q3⟩ := hw1; go_simp <;> try (rw [wrap_nat (by omega)])⟩) ?_
  simp only [Act.put, List.setIfInBounds_toArray, List.set_cons_zero, List.set_cons_succ]
  refine wpAnyK_takeTo 8 (some 49) (.pointer (some ⟨dg, 1, none⟩)) [9, 11, 12, 13, 14] rfl rfl (by kernel_rfl) (by kernel_rfl) (by kernel_rfl) (by kernel_rfl) (fun _ _ _ h => h) hS (Or.inl ⟨rfl, fun w1 hw1 => by obtain ⟨q0, q1, q2, q3⟩ := hw1; go_simp <;> try (rw [wrap_nat (by omega)])⟩) ?_
  simp only [Act.put, List.setIfInBounds_toArray, List.set_cons_zero, List.set_cons_succ]
  refine wpAnyK_takeTo 9 (some 50) (.slice (some ⟨gb, 0, none⟩) n1 lc1) [11, 12, 13, 14] rfl rfl (by kernel_rfl) (by kernel_rfl) (by kernel_rfl) (by kernel_rfl) (fun _ _ _ h => h) hS (Or.inl ⟨rfl, fun w1 hw1 => by obtain ⟨q0, q1, q2, q3⟩ := hw1; go_simp <;> try (rw [wrap_nat (by omega)])⟩) ?_
  simp only [Act.put, List.setIfInBounds_toArray, List.set_cons_zero, List.set_cons_succ]
  refine wpAnyK_takeTo 10 (some 51) (.int .i64 (ne : Int)) [11, 12, 13, 14] rfl rfl (by kernel_rfl) (by kernel_rfl) (by kernel_rfl) (by kernel_rfl) (fun _ _ _ h => h) hS (Or.inl ⟨rfl, fun w1 hw1 => by obtain ⟨q0, q1, q2, q3⟩ := hw1; go_simp <;> try (rw [wrap_nat (by omega)])⟩) ?_
  simp only [Act.put, List.setIfInBounds_toArray, List.set_cons_zero, List.set_cons_succ]
  refine wpAnyK_takeTo 11 (some 52) (.pointer (some ⟨gb, ne * 2, none⟩)) [12, 13, 14] rfl rfl (by kernel_rfl) (by kernel_rfl) (by kernel_rfl) (by kernel_rfl) (fun _ _ _ h => h) hS (Or.inl ⟨rfl, fun w1 hw1 => by obtain ⟨q0, q1, q2, q3⟩ := hw1; go_simp <;> try (rw [wrap_nat (by omega)])⟩) ?_
  simp only [Act.put, List.setIfInBounds_toArray, List.set_cons_zero, List.set_cons_succ]
  refine wpAnyK_takeTo 12 (some 53) (.agg #[.string yk, .int .i64 yv]) [13, 14] rfl rfl (by kernel_rfl) (by kernel_rfl) (by kernel_rfl) (by kernel_rfl) (fun _ _ _ h => h) hS (Or.inl ⟨rfl, fun w1 hw1 => by obtain ⟨q0, q1, q2, q3⟩ := hw1; go_simp <;> try (rw [wrap_nat (by omega)])⟩) ?_
  simp only [Act.put, List.setIfInBounds_toArray, List.set_cons_zero, List.set_cons_succ]
  refine wpAnyK_takeTo 13 (some 54) (.pointer (some ⟨gl, i * 2, none⟩)) [14] rfl rfl (by kernel_rfl) (by kernel_rfl) (by kernel_rfl) (by kernel_rfl) (fun _ _ _ h => h) hS (Or.inl ⟨rfl, fun w1 hw1 => by obtain ⟨q0, q1, q2, q3⟩ := hw1; go_simp <;> try (rw [wrap_nat (by omega)])⟩) ?_
  simp only [Act.put, List.setIfInBounds_toArray, List.set_cons_zero, List.set_cons_succ]
  have H3p := H3d.putI HLN.out hin yk yv
  obtain ⟨_, vA⟩ := H3d.raw
  obtain ⟨w1a, w1b⟩ : Wd.cell? ⟨gl, i * 2, none⟩ = some (.string mk) ∧ Wd.cell? ⟨gl, i * 2 + 1, none⟩ = some (.int .i64 mv) := by
    obtain ⟨g, e, c⟩ := row_cell (by have h := vA.row; rw [HLN.out] at h; exact h) (encI_get L i _ HMK.out).1
    cases e
    obtain ⟨g, e, c'⟩ := row_cell (by have h := vA.row; rw [HLN.out] at h; exact h) (encI_get L i _ HMK.out).2
    cases e
    exact ⟨c, c'⟩
  have hfz : ∀ j, Wd.frozen? ⟨gl, j, none⟩ = false := fun j => by
    obtain ⟨c, hc⟩ := own_type vA.row (k := gl) rfl
    exact block_frozen hc j
  have f1 := hfz (i * 2)
  have f2 := hfz (i * 2 + 1)
  obtain ⟨W6, hW6⟩ : ∃ W6, W6 = (Wd.setCell ⟨gl, i * 2, none⟩ (.string yk)).setCell ⟨gl, i * 2 + 1, none⟩ (.int .i64 yv) := ⟨_, rfl⟩
  rw [← hW6] at H3p
  have HW6 := hide hW6
  clear hW6 vA hfz H3d hS
  refine wpAnyK_one (i := 14) (by kernel_rfl) rfl rfl ?_
  go_simp
  rw [← HW6.out]
  refine wpAnyK_done (by kernel_rfl) ?_ _
  clear HW6 w1a w1b f1 f2
  have H3c := H3p.cb.ba
  clear H3p
  obtain ⟨_, vB⟩ := H3c.raw
  have xB := vB.cells.2.1
  have hne1 : (ne : Int) + 1 = (n1 : Int) := by have := HNE1.out; omega
  have HDI := hide (deleteI (w := W6) (.slice (some ⟨gb, 0, none⟩) n1 lc1) n1 (encI Le) (by have h := vB.row; rw [HLN1.out] at h; exact h) (encI_one Le) ne n1 ne hgr0 (by omega) (by omega) (by have := HNE1.out; omega))
  have hlt4 : (Le.take ne).length = ne := by rw [List.length_take, HLN1.out]; omega
  have he4 : (encI Le).take (ne * 2) ++ (encI Le).drop (n1 * 2) = encI (Le.take ne) := by rw [encI_take, encI_drop, List.drop_of_length_le (by rw [HLN1.out]; exact Nat.le_refl _)]; simp [encI]
  have HL4 := hide hlt4
  have HE4 := hide he4
  clear hlt4 he4 vB
  go_wp2_with fail
  refine HDI.out.mono ?_
  rintro en V7 ⟨v7, rfl, hr7, hb7, g7⟩
  obtain ⟨a7, c7, rfl⟩ := shape_n hr7
  rw [HE4.out] at hr7
  have hset := H3c.setL (w1 := V7) (la' := .slice a7 ne c7) (LA' := Le.take ne) (by rw [HL4.out]; exact hr7) g7 (.inl hb7)
  obtain ⟨W7, hW7⟩ : ∃ W7, W7 = V7.setCell ⟨dg, 1, none⟩ (.slice a7 ne c7) := ⟨_, rfl⟩
  rw [← hW7] at hset
  obtain ⟨H3, z1, z2⟩ := hset
  have HW7 := hide hW7
  have HLR7 : Hid (∃ A, Raw W7 dg cur (.slice a7 ne c7) (.slice ka1 m1 kc1) (Le.take ne) gB A) := hide H3.raw
  clear hW7 hr7 hb7 g7 H3c xB HDI
  go_wp2_with (rw [← HW7.out]; clear HW7)
  clear z1 z2
  obtain ⟨_, vB⟩ := HLR7.out
  refine (last_raw vB).mono ?_
  rintro en W7x ⟨rfl, hw7x⟩
  rw [hw7x]
  clear hw7x
  rw [HlB.out]
  obtain ⟨b, hb⟩ : ∃ b, b = decide (m1 = 0) := ⟨_, rfl⟩
  rw [← hb]
  clear vB
  by_cases hm0 : m1 = 0
  · have hb' : b = true := by rw [hb]; simpa using hm0
    rw [hb']
    have hh : h = 0 := by
      rcases HKDD.out.len with ⟨h0, _⟩ | ⟨_, h1⟩
      · exact h0
      · have := HM1.out; omega
    clear hb hb'
    go_wp2_with fail
    obtain ⟨SB', SA', SR', rB, rA, rR, sB, sA, sR, aBA, aBR, aAR, f9⟩ := H3
    have e1 : kse = [] := by have h := HKDD.out; rw [hh] at h; exact h
    have e2 : ksr = [] := by have h := HKD2.out; rw [hh] at h; exact h
    have hLes : Le = Le.take ne ++ [⟨yk, yv⟩] := by
      have h1 := List.take_append_drop ne Le
      have h2 : Le.drop ne = [⟨yk, yv⟩] := by
        obtain ⟨hl, hv⟩ := List.getElem?_eq_some_iff.1 HX0.out
        rw [List.drop_eq_getElem_cons hl, hv, List.drop_of_length_le (by rw [HLN1.out]; have := HNE1.out; omega)]
      rw [h2] at h1
      exact h1.symm
    have hs1 := Hf1.out.size
    have hltn : (Le.take ne).length = ne := HL4.out
    have HRES := rot_fin (w := w) (A := ks.take i) (B := ks.drop (i + 2)) HN2.out HK2.out (by rw [List.length_take]; have := HIL.out; omega) HNDD.out HKDD.out HND2.out HKD2.out HMK.out HDG.out HRG.out (HF2.out.trans HF1.out) (by rw [← HPG.out]; exact rA) rB rR (y := ⟨yk, yv⟩) (List.set_eq_take_append_cons_drop.trans (if_pos (by rw [HLN.out]; exact hin))) HGA.out (kB := []) (kC := []) (by rw [HGB.out, e1]) (by rw [HGR.out, e2]) (by
      have h := congrArg (· ++ (⟨mk, mv⟩ : It) :: Lr) hLes
      simpa using h) (by rw [e1, e2]) (fun hn0 => absurd hh hn0) ⟨by rw [hltn]; have := HLE.out; have := HNE.out; omega, by rw [hltn]; have := HNDD.out.high; have := HNE.out; omega⟩ ⟨by have := HLR.out; rw [List.length_cons]; omega, by have := HLR.out; rw [List.length_cons]; omega⟩ sA sB sR (fun k ha hb => aBA k hb ha) aAR aBR HSA.out.1 (HSA.out.2.1 trivial) HSA.out.2.2 HSB.out.1 (HSB.out.2.1 trivial) HSB.out.2.2 HSR.out.1 (HSR.out.2.1 trivial) HSR.out.2.2 (fun k hk => (HX2.out k hk).elim (HX1.out k) (fun h => .inr (by omega))) (fun k hk => (HY2.out k hk).elim (HY1.out k) (fun h => .inr (by omega))) ((Hf1.out.trans Hf2.out).mono (fun k _ hz => hz.elim (HN.out.ky rfl k) (HN.out.ky rfl k))) (f9.mono (fun k _ hz => by
      rcases hz with h | h | h | h
      · exact .inr (.inl h)
      · exact .inl h
      · exact .inr (.inr (.inl h))
      · exact .inr (.inr (.inr h))))
    rw [hltn, HNE.out, List.length_cons] at HRES
    rw [show (⟨mk, mv⟩ : It) = x from Option.some.inj (HMK.out.symm.trans HXX.out)] at HRES
    go_end0
    exact HRES
  · have hb' : b = false := by rw [hb]; simpa using hm0
    rw [hb']
    have hh : h ≠ 0 := fun h0 => hm0 (by
      rcases HKDD.out.len with ⟨_, h1⟩ | ⟨h1, _⟩
      · rw [← HM1.out]; exact h1
      · exact absurd h0 h1)
    clear hb hb'
    obtain ⟨hp, hhp⟩ : ∃ hp, h = hp + 1 := ⟨h - 1, by omega⟩
    have hlE : kse.length = Le.length + 1 := by have h := HKDD.out; rw [hhp] at h; exact h.1
    have hlR' : ksr.length = Lr.length + 1 := by have h := HKD2.out; rw [hhp] at h; exact h.1
    have hm1n : m1 = n1 + 1 := by have := HM1.out; have := HLN1.out; omega
    obtain ⟨kl, hkl0⟩ : ∃ kl, kse[n1]? = some kl := ⟨_, List.getElem?_eq_getElem (by have := HLN1.out; omega)⟩
    obtain ⟨kg, hkg⟩ : ∃ kg, kg = kl.g := ⟨_, rfl⟩
    have hgT : gB[n1]? = some kg := by rw [HGB.out, List.getElem?_map, hkl0, hkg]; rfl
    have H3 := H3.cb.ba
    obtain ⟨_, vR⟩ := H3.raw
    obtain ⟨_, vB⟩ := H3.ba.raw
    obtain ⟨gk, rfl, ck⟩ := row_cell (by have h := vB.krow; rw [HlB.out] at h; exact h) (show (pts gB)[n1]? = some (.pointer (some ⟨kg, 0, none⟩)) by unfold pts; rw [List.getElem?_map, hgT]; rfl)
    have hS0 : SKs rg dg gk n1 kg (.slice rk m2 rkc) (.slice (some ⟨gk, 0, none⟩) m1 kc1) W7 := ⟨vR.cells.2.2, vB.cells.2.2, ck⟩
    have HGT := hide hgT
    have HHP := hide hhp
    have HlE := hide hlE
    have HlR' := hide hlR'
    have HM1N := hide hm1n
    have HKL0 := hide hkl0
    have HKG := hide hkg
    have hn1m : n1 < m1 := by omega
    clear vB vR ck hgT HLR7 hhp hlE hlR' hm1n hkl0 hkg
    go_wp2_with fail
    refine wp_region_K (fun z => decide (z < 15)) (SKs rg dg gk n1 kg (.slice rk m2 rkc) (.slice (some ⟨gk, 0, none⟩) m1 kc1)) (by kernel_rfl) ?_
    obtain ⟨Wd, hWd⟩ : ∃ Wd, Wd = W7.drew := ⟨_, rfl⟩
    have F1 : Fr W7 Wd (fun _ => False) := by rw [hWd]; exact Fr.drew _ _
    rw [← hWd]
    clear hWd
    have hS : SKs rg dg gk n1 kg (.slice rk m2 rkc) (.slice (some ⟨gk, 0, none⟩) m1 kc1) Wd := hS0.fr F1 (fun h => h) (fun h => h) (fun h => h)
    have H3d := H3.quiet F1
    clear F1 H3 hS0
    refine wpAnyK_takeTo 0 (some 69) (.pointer (some ⟨rg, 0, none⟩)) [15, 16, 17] rfl rfl (by kernel_rfl) (by kernel_rfl) (by kernel_rfl) (by kernel_rfl) (fun _ _ _ h => h) hS (Or.inl ⟨rfl, fun w1 hw1 => by obtain ⟨q0, q1, q2⟩ := hw1; go_simp <;> try (rw [wrap_nat (by omega)])⟩) ?_
    simp only [Act.put, List.setIfInBounds_toArray, List.set_cons_zero, List.set_cons_succ]
    refine wpAnyK_takeTo 1 (some 70) (.pointer (some ⟨rg, 0, none⟩)) [2, 3, 4, 14, 15, 16, 17] rfl rfl (by kernel_rfl) (by kernel_rfl) (by kernel_rfl) (by kernel_rfl) (fun _ _ _ h => h) hS (Or.inl ⟨rfl, fun w1 hw1 => by obtain ⟨q0, q1, q2⟩ := hw1; go_simp <;> try (rw [wrap_nat (by omega)])⟩) ?_
    simp only [Act.put, List.setIfInBounds_toArray, List.set_cons_zero, List.set_cons_succ]
    refine wpAnyK_takeTo 2 (some 71) (.pointer (some ⟨rg, 0, none⟩)) [3, 4, 14, 15, 16, 17] rfl rfl (by kernel_rfl) (by kernel_rfl) (by kernel_rfl) (by kernel_rfl) (fun _ _ _ h => h) hS (Or.inl ⟨rfl, fun w1 hw1 => by obtain ⟨q0, q1, q2⟩ := hw1; go_simp <;> try (rw [wrap_nat (by omega)])⟩) ?_
    simp only [Act.put, List.setIfInBounds_toArray, List.set_cons_zero, List.set_cons_succ]
    refine wpAnyK_takeTo 3 (some 72) (.pointer (some ⟨rg, 2, none⟩)) [4, 14, 15, 16, 17] rfl rfl (by kernel_rfl) (by kernel_rfl) (by kernel_rfl) (by kernel_rfl) (fun _ _ _ h => h) hS (Or.inl ⟨rfl, fun w1 hw1 => by obtain ⟨q0, q1, q2⟩ := hw1; go_simp <;> try (rw [wrap_nat (by omega)])⟩) ?_
    simp only [Act.put, List.setIfInBounds_toArray, List.set_cons_zero, List.set_cons_succ]
    refine wpAnyK_takeTo 4 (some 73) (.slice rk m2 rkc) [14, 15, 16, 17] rfl rfl (by kernel_rfl) (by kernel_rfl) (by kernel_rfl) (by kernel_rfl) (fun _ _ _ h => h) hS (Or.inl ⟨rfl, fun w1 hw1 => by obtain ⟨q0, q1, q2⟩ := hw1; go_simp <;> try (rw [wrap_nat (by omega)])⟩) ?_
    simp only [Act.put, List.setIfInBounds_toArray, List.set_cons_zero, List.set_cons_succ]
    refine wpAnyK_takeTo 5 (some 74) (.pointer (some ⟨dg, 0, none⟩)) [6, 7, 8, 11, 12, 13, 14, 15, 16, 17] rfl rfl (by kernel_rfl) (by kernel_rfl) (by kernel_rfl) (by kernel_rfl) (fun _ _ _ h => h) hS (Or.inl ⟨rfl, fun w1 hw1 => by obtain ⟨q0, q1, q2⟩ := hw1; go_simp <;> try (rw [wrap_nat (by omega)])⟩) ?_
    simp only [Act.put, List.setIfInBounds_toArray, List.set_cons_zero, List.set_cons_succ]
    refine wpAnyK_takeTo 6 (some 75) (.pointer (some ⟨dg, 0, none⟩)) [7, 8, 11, 12, 13, 14, 15, 16, 17] rfl rfl (by kernel_rfl) (by kernel_rfl) (by kernel_rfl) (by kernel_rfl) (fun _ _ _ h => h) hS (Or.inl ⟨rfl, fun w1 hw1 => by obtain ⟨q0, q1, q2⟩ := hw1; go_simp <;> try (rw [wrap_nat (by omega)])⟩) ?_
    simp only [Act.put, List.setIfInBounds_toArray, List.set_cons_zero, List.set_cons_succ]
    refine wpAnyK_takeTo 7 (some 76) (.pointer (some ⟨dg, 2, none⟩)) [8, 11, 12, 13, 14, 15, 16, 17] rfl rfl (by kernel_rfl) (by kernel_rfl) (by kernel_rfl) (by kernel_rfl) (fun _ _ _ h => h) hS (Or.inl ⟨rfl, fun w1 hw1 => by obtain ⟨q0, q1, q2⟩ := hw1; go_simp <;> try (rw [wrap_nat (by omega)])⟩) ?_
    simp only [Act.put, List.setIfInBounds_toArray, List.set_cons_zero, List.set_cons_succ]
    refine wpAnyK_takeTo 8 (some 77) (.slice (some ⟨gk, 0, none⟩) m1 kc1) [11, 12, 13, 14, 15, 16, 17] rfl rfl (by kernel_rfl) (by kernel_rfl) (by kernel_rfl) (by kernel_rfl) (fun _ _ _ h => h) hS (Or.inl ⟨rfl, fun w1 hw1 => by obtain ⟨q0, q1, q2⟩ := hw1; go_simp <;> try (rw [wrap_nat (by omega)])⟩) ?_
    simp only [Act.put, List.setIfInBounds_toArray, List.set_cons_zero, List.set_cons_succ]
    refine wpAnyK_takeTo 9 (some 78) (.int .i64 (ne : Int)) [10, 11, 12, 13, 14, 15, 16, 17] rfl rfl (by kernel_rfl) (by kernel_rfl) (by kernel_rfl) (by kernel_rfl) (fun _ _ _ h => h) hS (Or.inl ⟨rfl, fun w1 hw1 => by obtain ⟨q0, q1, q2⟩ := hw1; go_simp <;> try (rw [wrap_nat (by omega)])⟩) ?_
    simp only [Act.put, List.setIfInBounds_toArray, List.set_cons_zero, List.set_cons_succ]
    refine wpAnyK_takeTo 10 (some 79) (.int .i64 (n1 : Int)) [11, 12, 13, 14, 15, 16, 17] rfl rfl (by kernel_rfl) (by kernel_rfl) (by kernel_rfl) (by kernel_rfl) (fun _ _ _ h => h) hS (Or.inl ⟨rfl, fun w1 hw1 => by obtain ⟨q0, q1, q2⟩ := hw1; go_simp <;> try (rw [wrap_nat (by omega)])⟩) ?_
    simp only [Act.put, List.setIfInBounds_toArray, List.set_cons_zero, List.set_cons_succ]
    refine wpAnyK_takeTo 11 (some 80) (.pointer (some ⟨gk, n1, none⟩)) [12, 13, 14, 15, 16, 17] rfl rfl (by kernel_rfl) (by kernel_rfl) (by kernel_rfl) (by kernel_rfl) (fun _ _ _ h => h) hS (Or.inl ⟨rfl, fun w1 hw1 => by obtain ⟨q0, q1, q2⟩ := hw1; go_simp <;> try (rw [wrap_nat (by omega)])⟩) ?_
    simp only [Act.put, List.setIfInBounds_toArray, List.set_cons_zero, List.set_cons_succ]
    refine wpAnyK_takeTo 12 (some 81) (.pointer (some ⟨kg, 0, none⟩)) [13, 14, 15, 16, 17] rfl rfl (by kernel_rfl) (by kernel_rfl) (by kernel_rfl) (by kernel_rfl) (fun _ _ _ h => h) hS (Or.inl ⟨rfl, fun w1 hw1 => by obtain ⟨q0, q1, q2⟩ := hw1; go_simp <;> try (rw [wrap_nat (by omega)])⟩) ?_
    simp only [Act.put, List.setIfInBounds_toArray, List.set_cons_zero, List.set_cons_succ]
    have hk := H3d.keepK
    obtain ⟨SRr, vR⟩ := H3d.raw
    have GA0 := Fr.alloc Wd (.cells #[.pointer (some ⟨kg, 0, none⟩)] 74) (fun _ => False)
    obtain ⟨VB', hVB⟩ : ∃ VB', VB' = Wd.heap.size := ⟨_, rfl⟩
    obtain ⟨Wa', hWa⟩ : ∃ Wa', Wa' = Wd.alloc (.cells #[.pointer (some ⟨kg, 0, none⟩)] 74) := ⟨_, rfl⟩
    have ba : Wa'.heap[VB']? = some (.cells [Value.pointer (some ⟨kg, 0, none⟩)].toArray 74 (0, 0)) := by rw [hWa, hVB]; exact heap_alloc_new Wd _
    rw [← hWa] at GA0
    have hnb2 : (Value.slice rk m2 rkc).ownBlock ≠ some VB' := fun h => by have := vR.lt VB' (vR.ins VB' (.inr (.inr h))); omega
    have vRa := vR.fr GA0 (fun _ _ h => h)
    have hins := insertK (w := Wa') (.slice rk m2 rkc) m2 (pts gR) (by have h := vRa.krow; rw [HlR.out] at h; exact h) (pts_one gR) (by omega) 0 (by omega) VB' [.pointer (some ⟨kg, 0, none⟩)] ba rfl (fun u hu => by simp at hu; rw [hu]; rfl) hnb2
    have H3e := H3d.quiet GA0
    have hSa : SKs rg dg gk n1 kg (.slice rk m2 rkc) (.slice (some ⟨gk, 0, none⟩) m1 kc1) Wa' := hS.fr GA0 (fun h => h) (fun h => h) (fun h => h)
    have hb1 : ∀ {Z : World}, Fr Wa' Z (fun k => (Value.slice rk m2 rkc).ownBlock = some k) → SKs rg dg gk n1 kg (.slice rk m2 rkc) (.slice (some ⟨gk, 0, none⟩) m1 kc1) Z := fun {Z} f => hSa.fr f (hk _ (.inl rfl)) (hk _ (.inr (.inr (.inl (.inl rfl))))) (hk _ (.inr (.inr (.inl (.inr (.inr rfl))))))
    have HWa' := hide hWa
    have HVB' := hide hVB
    clear hWa hVB GA0 hk vR vRa H3d hnb2 ba
    refine wpAnyK_one (i := 13) (by kernel_rfl) rfl rfl ?_
    go_simp
    rw [← HWa'.out, ← HVB'.out]
    refine ⟨hSa, ?_⟩
    refine wpAnyK_one (i := 14) (by kernel_rfl) rfl rfl ?_
    refine wp_call_to (some 83) rfl 90 #[.slice rk m2 rkc, .int .i64 0, .slice (some ⟨VB', 0, none⟩) 1 1] (by go_simp) hins ?_
    rintro en W8 ⟨v8, rfl, hr8, hf8, g8⟩
    obtain ⟨a8, c8, rfl⟩ := shape_n hr8
    refine ⟨_, rfl, fun _ => hb1 g8, ?_⟩
    simp only [Act.put, List.setIfInBounds_toArray, List.set_cons_zero, List.set_cons_succ]
    obtain ⟨m3, hm3⟩ : ∃ m3, m3 = m2 + 1 := ⟨_, rfl⟩
    rw [← hm3] at hr8 hf8 ⊢
    rw [show (pts gR).take (0 * 1) ++ [Value.pointer (some ⟨kg, 0, none⟩)] ++ (pts gR).drop (0 * 1) = pts (kg :: gR) by simp [pts]] at hr8
    have hset := H3e.setK (w1 := W8) (ka' := .slice a8 m3 c8) (hA' := kg :: gR) (by rw [show (kg :: gR).length = m3 by rw [List.length_cons, HlR.out, hm3]]; exact hr8) g8 hf8
    obtain ⟨W9, hW9⟩ : ∃ W9, W9 = W8.setCell ⟨rg, 2, none⟩ (.slice a8 m3 c8) := ⟨_, rfl⟩
    rw [← hW9] at hset
    obtain ⟨H3, z1, z2⟩ := hset
    have HM3 := hide hm3
    have HW9 := hide hW9
    clear hm3 hW9 hb1 hS hSa hr8 hf8 g8 H3e hins
    refine wpAnyK_one (i := 15) (by kernel_rfl) rfl rfl ?_
    go_simp
    refine wpAnyK_one (i := 16) (by kernel_rfl) rfl rfl ?_
    go_simp
    refine wpAnyK_one (i := 17) (by kernel_rfl) rfl rfl ?_
    go_simp
    rw [← HW9.out]
    refine wpAnyK_done (by kernel_rfl) ?_ _
    clear HW9 z1 z2
    have H3c := H3.ba
    clear H3
    obtain ⟨_, vB⟩ := H3c.raw
    have xB := vB.cells.2.2
    have hne1 : (ne : Int) + 1 = (n1 : Int) := by have := HNE1.out; omega
    have hne2 : (ne : Int) + 2 = (m1 : Int) := by have := HNE1.out; have := HM1N.out; omega
    have HDK := hide (deleteK (w := W9) (.slice (some ⟨gk, 0, none⟩) m1 kc1) m1 (pts gB) (by have h := vB.krow; rw [HlB.out] at h; exact h) (pts_one gB) n1 m1 n1 hn1m (by omega) (by omega) (by have := HM1N.out; omega))
    have hlt4 : (gB.take n1).length = n1 := by rw [List.length_take, HlB.out]; omega
    have he4 : (pts gB).take (n1 * 1) ++ (pts gB).drop (m1 * 1) = pts (gB.take n1) := by rw [pts_take, pts_drop, List.drop_of_length_le (by rw [HlB.out]; exact Nat.le_refl _)]; simp [pts]
    have HL5 := hide hlt4
    have HE5 := hide he4
    clear hlt4 he4 vB
    go_wp2_with fail
    refine HDK.out.mono ?_
    rintro en V10 ⟨v10, rfl, hr10, hb10, g10⟩
    obtain ⟨a10, c10, rfl⟩ := shape_n hr10
    rw [HE5.out] at hr10
    have hset := H3c.setK (w1 := V10) (ka' := .slice a10 n1 c10) (hA' := gB.take n1) (by rw [HL5.out]; exact hr10) g10 (.inl hb10)
    obtain ⟨W10, hW10⟩ : ∃ W10, W10 = V10.setCell ⟨dg, 2, none⟩ (.slice a10 n1 c10) := ⟨_, rfl⟩
    rw [← hW10] at hset
    obtain ⟨H3, z1, z2⟩ := hset
    have HW10 := hide hW10
    clear hW10 hr10 hb10 g10 H3c xB HDK
    go_wp2_with (rw [← HW10.out]; clear HW10)
    clear z1 z2
    obtain ⟨SB', SA', SR', rB, rA, rR, sB, sA, sR, aBA, aBR, aAR, f9⟩ := H3.cb
    have hkse : kse = kse.take n1 ++ [kl] := by
      have h1 := List.take_append_drop n1 kse
      have h2 : kse.drop n1 = [kl] := by
        obtain ⟨hl, hv⟩ := List.getElem?_eq_some_iff.1 HKL0.out
        rw [List.drop_eq_getElem_cons hl, hv, List.drop_of_length_le (by have := HlE.out; have := HLN1.out; omega)]
      rw [h2] at h1
      exact h1.symm
    have hLes : Le = Le.take ne ++ [⟨yk, yv⟩] := by
      have h1 := List.take_append_drop ne Le
      have h2 : Le.drop ne = [⟨yk, yv⟩] := by
        obtain ⟨hl, hv⟩ := List.getElem?_eq_some_iff.1 HX0.out
        rw [List.drop_eq_getElem_cons hl, hv, List.drop_of_length_le (by rw [HLN1.out]; have := HNE1.out; omega)]
      rw [h2] at h1
      exact h1.symm
    have hs1 := Hf1.out.size
    have hltn : (Le.take ne).length = ne := HL4.out
    have HRES := rot_fin (w := w) (A := ks.take i) (B := ks.drop (i + 2)) HN2.out HK2.out (by rw [List.length_take]; have := HIL.out; omega) HNDD.out HKDD.out HND2.out HKD2.out HMK.out HDG.out HRG.out (HF2.out.trans HF1.out) (by rw [← HPG.out]; exact rA) rB rR (y := ⟨yk, yv⟩) (List.set_eq_take_append_cons_drop.trans (if_pos (by rw [HLN.out]; exact hin))) HGA.out (kB := kse.take n1) (kC := kl :: ksr) (by rw [HGB.out, List.map_take]) (by rw [HGR.out, HKG.out]; rfl) (by
      have h := congrArg (· ++ (⟨mk, mv⟩ : It) :: Lr) hLes
      simpa using h) (by
      have h := congrArg (· ++ ksr) hkse
      simpa using h) (fun _ => ⟨by rw [List.length_take, HL4.out, HlE.out, HLN1.out]; have := HNE1.out; omega, by rw [List.length_cons, List.length_cons, HlR'.out]⟩) ⟨by rw [hltn]; have := HLE.out; have := HNE.out; omega, by rw [hltn]; have := HNDD.out.high; have := HNE.out; omega⟩ ⟨by have := HLR.out; rw [List.length_cons]; omega, by have := HLR.out; rw [List.length_cons]; omega⟩ sA sB sR (fun k ha hb => aBA k hb ha) aAR aBR HSA.out.1 (HSA.out.2.1 trivial) HSA.out.2.2 HSB.out.1 (HSB.out.2.1 trivial) HSB.out.2.2 HSR.out.1 (HSR.out.2.1 trivial) HSR.out.2.2 (fun k hk => (HX2.out k hk).elim (HX1.out k) (fun h => .inr (by omega))) (fun k hk => (HY2.out k hk).elim (HY1.out k) (fun h => .inr (by omega))) ((Hf1.out.trans Hf2.out).mono (fun k _ hz => hz.elim (HN.out.ky rfl k) (HN.out.ky rfl k))) (f9.mono (fun k _ hz => by
      rcases hz with h | h | h | h
      · exact .inr (.inl h)
      · exact .inl h
      · exact .inr (.inr (.inl h))
      · exact .inr (.inr (.inr h))))
    rw [hltn, HNE.out, List.length_cons] at HRES
    rw [show (⟨mk, mv⟩ : It) = x from Option.some.inj (HMK.out.symm.trans HXX.out)] at HRES
    go_end0
    exact HRES
end Go.Proofs.YtigkinakhijfoaaGreat
