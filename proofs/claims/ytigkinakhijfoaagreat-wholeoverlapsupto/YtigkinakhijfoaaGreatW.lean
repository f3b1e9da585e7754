/- fromRight: the right neighbour's first key goes up, the key between comes down. -/
import Derived.Test.YtigkinakhijfoaaGreatV
import Derived.Test.YtigkinakhijfoaaGreatJv
namespace Go.Proofs.YtigkinakhijfoaaGreat
open Go.RowKit
set_option maxRecDepth 100000
set_option linter.unusedVariables false
set_option linter.unusedSimpArgs false

def SMs (pg rg gr e : Nat) (lv lr : Value) (yk : ByteArray) (yv : Int) (U : World) : Prop := U.cell? ⟨pg, 1, none⟩ = some lv ∧ U.cell? ⟨rg, 1, none⟩ = some lr ∧ U.cell? ⟨gr, e * 2, none⟩ = some (.string yk) ∧ U.cell? ⟨gr, e * 2 + 1, none⟩ = some (.int .i64 yv)
theorem SMs.fr {pg rg gr e : Nat} {lv lr : Value} {yk : ByteArray} {yv : Int} {U V : World} (h : SMs pg rg gr e lv lr yk yv U) (hf : Fr U V (fun _ => False)) : SMs pg rg gr e lv lr yk yv V := ⟨hf.cell (fun h => h) h.1, hf.cell (fun h => h) h.2.1, hf.cell (fun h => h) h.2.2.1, hf.cell (fun h => h) h.2.2.2⟩
def SKs (dg rg gk e kg : Nat) (kb kr : Value) (U : World) : Prop := U.cell? ⟨dg, 2, none⟩ = some kb ∧ U.cell? ⟨rg, 2, none⟩ = some kr ∧ U.cell? ⟨gk, e, none⟩ = some (.pointer (some ⟨kg, 0, none⟩))
theorem SKs.fr {dg rg gk e kg : Nat} {kb kr : Value} {U V : World} {Z : Nat → Prop} (h : SKs dg rg gk e kg kb kr U) (hf : Fr U V Z) (h1 : ¬ Z dg) (h2 : ¬ Z rg) (h3 : ¬ Z gk) : SKs dg rg gk e kg kb kr V := ⟨hf.cell h1 h.1, hf.cell h2 h.2.1, hf.cell h3 h.2.2⟩
set_option maxHeartbeats 16000000 in
theorem fromRight_any {o : Nat} {cur : Int} {h lo : Nat} {w : World} {p e e2 : Kd} {lv kv : Value} {L : List It} {ks : List Kd} {t1 t2 : Int} {le ke lr kr : Value} {Le Lr : List It} {kse ksr : List Kd} {tb root : Nat} {cnt : Int} (hT : TreeB w tb o cnt root cur) (htb : ¬ p.X tb) (hN : NodeV o cur lo w p cur lv kv L ks) (hK : KOk o cur (h + 1) w L ks) {i : Nat} {x : It} (hxx : L[i]? = some x) (hi : ks[i]? = some e) (hi2 : ks[i + 1]? = some e2) (hNe : NodeV o cur (o - 1) w e t1 le ke Le kse) (hKe : KOk o cur h w Le kse) (hNr : NodeV o cur (o - 1) w e2 t2 lr kr Lr ksr) (hKr : KOk o cur h w Lr ksr) (hLe : Le.length = o - 1) (hLr : o ≤ Lr.length) (ho2 : 2 ≤ o) (ho : o ≤ 64) :
    Calls Tryz.prog 94 #[.pointer (some ⟨tb, 0, none⟩), .pointer (some ⟨p.g, 0, none⟩), .int .i64 (i : Int)] w (RotQ o cur h lo L (ks.take i) (ks.drop (i + 2)) i (Le.length + 1) (Lr.length - 1) (Le ++ x :: Lr) w p) := by
  have HXX := hide hxx
  clear hxx
  have hil : i + 1 < ks.length := (List.getElem?_eq_some_iff.1 hi2).1
  have hkl : ks.length = L.length + 1 := hK.1
  have HKD := hide (kid_any hT hN hK hi hNe hKe ho)
  obtain ⟨la, lc, ka, kc', rfl, rfl⟩ := hN.shape
  obtain ⟨i1, hi1⟩ : ∃ i1, i1 = i + 1 := ⟨_, rfl⟩
  obtain ⟨pg, hpg⟩ : ∃ pg, pg = p.g := ⟨_, rfl⟩
  rw [← hpg] at HKD ⊢
  have hmem2 : e2 ∈ ks := List.mem_of_getElem? hi2
  have hi1i : (i : Int) + 1 = (i1 : Int) := by omega
  have hib : i1 ≤ 128 := by have := hN.high; omega
  have HT := hide hT
  have HTB := hide htb
  have HN := hide hN
  have HPG := hide hpg
  have HI1 := hide hi1
  have HI2 := hide hi2
  have HIL := hide hil
  have HKL := hide hkl
  have HNR := hide hNr
  have HKR := hide hKr
  have HLE := hide hLe
  have HLR := hide hLr
  clear hT htb hN hK hi hi2 hNe hKe hpg hil hkl hi1 hNr hKr hLe hLr
  go_enter Tryz.func94, Tryz.ntmps94
  go_wp2_with fail
  refine HKD.out.mono ?_
  rintro en W1 ⟨p1, d, lb, kb, rfl, hg1, hF1, hn1, hk1, hnd, hkd, hFd, hX1, hY1, hXd, hYd, f1⟩
  have hpg1 : p1.g = pg := by rw [hg1, HPG.out]
  have hd2 : (ks.set i d)[i + 1]? = some e2 := by rw [List.getElem?_set, if_neg (by omega)]; exact HI2.out
  have hnr : NodeV o cur (o - 1) W1 e2 t2 lr kr Lr ksr := HNR.out.fr f1 (fun k hk hz => HN.out.apk e2 hmem2 k hz hk)
  have hkr : KOk o cur h W1 Lr ksr := HKR.out.fr f1 (fun x hx k hk hz => HN.out.apk e2 hmem2 k hz (HNR.out.sx x hx k hk))
  have hil := HIL.out
  have hdm : (ks.set i d)[i]? = some d := List.getElem?_set_self (by omega)
  have HKE := hide (kid_any (HT.out.fr f1 (fun hz => HTB.out (HN.out.kx _ hz))) hn1 hk1 hd2 hnr hkr ho)
  rw [hpg1, ← HI1.out] at HKE
  obtain ⟨dg, hdg⟩ : ∃ dg, dg = d.g := ⟨_, rfl⟩
  rw [← hdg]
  have HN1 := hide hn1
  have HND := hide hnd
  have HKD1 := hide hkd
  have HX1 := hide hX1
  have HY1 := hide hY1
  have HF1 := hide hF1
  have HG1 := hide hg1
  have HPG1 := hide hpg1
  have HDG := hide hdg
  have HDM := hide hdm
  have HD2 := hide hd2
  have Hf1 := hide f1
  clear hn1 hk1 hnd hkd hFd hX1 hY1 hXd hYd hF1 hg1 hpg1 hdg hd2 hnr hkr f1 HKD hil hdm
  go_wp2_with fail
  refine HKE.out.mono ?_
  rintro en W2 ⟨p2, d2, lr2, kr2, rfl, hg2, hF2, hn2, hk2, hnd2, hkd2, hFd2, hX2, hY2, hXd2, hYd2, f2⟩
  have hndd : NodeV o cur (o - 1) W2 d cur lb kb Le kse := HND.out.fr f2 (fun k hk hz => HN1.out.apk d (List.mem_of_getElem? HDM.out) k hz hk)
  have hkdd : KOk o cur h W2 Le kse := HKD1.out.fr f2 (fun x hx k hk hz => HN1.out.apk d (List.mem_of_getElem? HDM.out) k hz (HND.out.sx x hx k hk))
  obtain ⟨rg, hrg⟩ : ∃ rg, rg = d2.g := ⟨_, rfl⟩
  rw [← hrg]
  have hpg2 : p2.g = pg := by rw [hg2, HPG1.out]
  have hse : ks.drop (i + 1) = e2 :: ks.drop (i + 2) := by
    obtain ⟨hl, hv⟩ := List.getElem?_eq_some_iff.1 HI2.out
    rw [← hv, List.getElem_cons_drop]
  have hset2 : (ks.set i d).set i1 d2 = ks.take i ++ d :: d2 :: ks.drop (i + 2) := by
    have hil := HIL.out
    have hl : (ks.take i ++ [d]).length = i + 1 := by simp; omega
    have e0 : ks.set i d = (ks.take i ++ [d]) ++ e2 :: ks.drop (i + 2) := by rw [List.set_eq_take_append_cons_drop, if_pos (by omega), hse]; simp
    rw [e0, HI1.out, List.set_append_right _ _ (by rw [hl]; exact Nat.le_refl _), hl, Nat.sub_self]
    simp
  rw [hset2] at hn2 hk2
  clear hse hset2
  obtain ⟨K2, hK2⟩ : ∃ K2, K2 = ks.take i ++ d :: d2 :: ks.drop (i + 2) := ⟨_, rfl⟩
  have hdm : d ∈ ks.take i ++ d :: d2 :: ks.drop (i + 2) := by simp
  have hrm : d2 ∈ ks.take i ++ d :: d2 :: ks.drop (i + 2) := by simp
  have hde : ∀ k, d.X k → ¬ d2.X k := by
    have h1 : Apart ([d] ++ (d2 :: ks.drop (i + 2))) := Apart.right hn2.apart
    exact h1.cross d (by simp) d2 (by simp)
  clear hK2 K2
  obtain ⟨la1, lc1, ka1, kc1, rfl, rfl⟩ := hndd.shape
  obtain ⟨ra, lc2, rk, rkc, rfl, rfl⟩ := hnd2.shape
  obtain ⟨⟨yk, yv⟩, hx0⟩ : ∃ x, Lr[0]? = some x := ⟨_, List.getElem?_eq_getElem (by have := HLR.out; omega)⟩
  obtain ⟨gr, rfl, c0⟩ := row_cell hnd2.row (encI_get Lr 0 _ hx0).1
  obtain ⟨g7, e7, c1⟩ := row_cell hnd2.row (encI_get Lr 0 _ hx0).2
  cases e7
  obtain ⟨⟨mk, mv⟩, hmk⟩ : ∃ x, L[i]? = some x := ⟨_, List.getElem?_eq_getElem (by have := HKL.out; have := HIL.out; omega)⟩
  obtain ⟨gl, rfl, ci⟩ := row_cell hn2.row (encI_get L i _ hmk).1
  obtain ⟨g6, e6, cj⟩ := row_cell hn2.row (encI_get L i _ hmk).2
  cases e6
  have HMK := hide hmk
  have HX0 := hide hx0
  dsimp only at ci cj
  clear hmk hx0 c0 c1
  have sA := hn2.setX
  have sB := hndd.setX
  have sR := hnd2.setX
  have rA := hn2.raw
  have rB := hndd.raw
  have rR := hnd2.raw
  rw [hpg2] at rA sA
  rw [← HDG.out] at rB sB
  rw [← hrg] at rR sR
  obtain ⟨n, hn⟩ : ∃ n, L.length = n := ⟨_, rfl⟩
  obtain ⟨n1, hn1'⟩ : ∃ n1, Le.length = n1 := ⟨_, rfl⟩
  obtain ⟨n2, hn2'⟩ : ∃ n2, Lr.length = n2 := ⟨_, rfl⟩
  obtain ⟨m, hm⟩ : ∃ m, ks.length = m := ⟨_, rfl⟩
  obtain ⟨m1, hm1⟩ : ∃ m1, kse.length = m1 := ⟨_, rfl⟩
  obtain ⟨m2, hm2⟩ : ∃ m2, ksr.length = m2 := ⟨_, rfl⟩
  have hin : i < n := by have := HKL.out; have := HIL.out; omega
  have hnb : n ≤ 127 := by have := hn2.high; omega
  have hn1b : n1 ≤ 127 := by have := hndd.high; omega
  have hn2b : n2 ≤ 127 := by have := hnd2.high; omega
  have hm1b : m1 ≤ 128 := by rcases hkdd.len with ⟨_, h1⟩ | ⟨_, h1⟩ <;> omega
  have hm2b : m2 ≤ 128 := by rcases hkd2.len with ⟨_, h1⟩ | ⟨_, h1⟩ <;> omega
  obtain ⟨SA, hSA⟩ : ∃ SA : Nat → Prop, SA = SetOf pg (.slice (some ⟨gl, 0, none⟩) L.length lc) (.slice ka ks.length kc') := ⟨_, rfl⟩
  obtain ⟨SB, hSB⟩ : ∃ SB : Nat → Prop, SB = SetOf dg (.slice la1 Le.length lc1) (.slice ka1 kse.length kc1) := ⟨_, rfl⟩
  obtain ⟨SR, hSR⟩ : ∃ SR : Nat → Prop, SR = SetOf rg (.slice (some ⟨gr, 0, none⟩) Lr.length lc2) (.slice rk ksr.length rkc) := ⟨_, rfl⟩
  rw [← hSA] at rA sA
  rw [← hSB] at rB sB
  rw [← hSR] at rR sR
  rw [hn, hm] at rA
  rw [hn1', hm1] at rB
  rw [hn2', hm2] at rR
  obtain ⟨gA, hgA⟩ : ∃ gA, gA = (ks.take i ++ d :: d2 :: ks.drop (i + 2)).map Kd.g := ⟨_, rfl⟩
  obtain ⟨gB, hgB⟩ : ∃ gB, gB = kse.map Kd.g := ⟨_, rfl⟩
  obtain ⟨gR, hgR⟩ : ∃ gR, gR = ksr.map Kd.g := ⟨_, rfl⟩
  rw [← hgA] at rA
  rw [← hgB] at rB
  rw [← hgR] at rR
  have hlB : gB.length = m1 := by rw [hgB, List.length_map]; exact hm1
  have hlR : gR.length = m2 := by rw [hgR, List.length_map]; exact hm2
  have H3 : T3 cur W2 SB SA SR dg (.slice la1 n1 lc1) (.slice ka1 m1 kc1) Le gB pg (.slice (some ⟨gl, 0, none⟩) n lc) (.slice ka m kc') L gA rg (.slice (some ⟨gr, 0, none⟩) n2 lc2) (.slice rk m2 rkc) Lr gR W2 :=
    ⟨SB, SA, SR, rB, rA, rR, fun k h => .inl h, fun k h => .inl h, fun k h => .inl h, fun k hb ha => sA.2.2 d hdm k (sB.1 k hb) ha, fun k ha hb => hde k (sB.1 k ha) (sR.1 k hb), fun k ha hb => sA.2.2 d2 hrm k (sR.1 k hb) ha, Fr.refl _ _⟩
  have HSA := hide sA
  have HSB := hide sB
  have HSR := hide sR
  have HN2 := hide hn2
  have HK2 := hide hk2
  have HND2 := hide hnd2
  have HKD2 := hide hkd2
  have HNDD := hide hndd
  have HKDD := hide hkdd
  have HX2 := hide hX2
  have HY2 := hide hY2
  have HF2 := hide hF2
  have HPG2 := hide hpg2
  have HRG := hide hrg
  have HLN := hide hn
  have HLN1 := hide hn1'
  have HLN2 := hide hn2'
  have HM1 := hide hm1
  have HM2 := hide hm2
  have HGA := hide hgA
  have HGB := hide hgB
  have HGR := hide hgR
  have HlB := hide hlB
  have HlR := hide hlR
  have Hf2 := hide f2
  clear sA sB sR hn2 hk2 hnd2 hkd2 hndd hkdd hX2 hY2 hF2 hg2 hpg2 hrg hn hn1' hn2' hm hm1 hm2 hgA hgB hgR hlB hlR hSA hSB hSR f2 rA rB rR hFd2 hXd2 hYd2 hrm hdm hde HKE hmem2
  obtain ⟨_, vB⟩ := H3.raw
  obtain ⟨_, vA⟩ := H3.ba.raw
  obtain ⟨_, vR⟩ := H3.cb.ba.raw
  have hS0 : SMr dg pg gl i rg (.slice la1 n1 lc1) (.slice (some ⟨gl, 0, none⟩) n lc) (.slice (some ⟨gr, 0, none⟩) n2 lc2) mk mv W2 := ⟨vB.cells.2.1, vA.cells.2.1, ci, cj, vR.cells.2.1⟩
  clear vB vA vR ci cj
  go_wp2_with fail
  refine wp_region_K (fun z => decide (z < 14)) (SMr dg pg gl i rg (.slice la1 n1 lc1) (.slice (some ⟨gl, 0, none⟩) n lc) (.slice (some ⟨gr, 0, none⟩) n2 lc2) mk mv) (by kernel_rfl) ?_
  obtain ⟨Wd, hWd⟩ : ∃ Wd, Wd = W2.drew := ⟨_, rfl⟩
  have F1 : Fr W2 Wd (fun _ => False) := by rw [hWd]; exact Fr.drew _ _
  rw [← hWd]
  clear hWd
  have hS : SMr dg pg gl i rg (.slice la1 n1 lc1) (.slice (some ⟨gl, 0, none⟩) n lc) (.slice (some ⟨gr, 0, none⟩) n2 lc2) mk mv Wd := hS0.fr F1 (fun h => h) (fun h => h) (fun h => h) (fun h => h)
  have H3d := H3.quiet F1
  clear F1 H3 hS0
  refine wpAnyK_takeTo 0 (some 17) (.pointer (some ⟨dg, 0, none⟩)) [14, 15, 16] rfl rfl (by kernel_rfl) (by kernel_rfl) (by kernel_rfl) (by kernel_rfl) (fun _ _ _ h => h) hS (Or.inl ⟨rfl, fun w1 hw1 => by obtain ⟨q0, q1, q2, q3, q4⟩ := hw1; go_simp⟩) ?_
  simp only [Act.put, List.setIfInBounds_toArray, List.set_cons_zero, List.set_cons_succ]
  refine wpAnyK_takeTo 1 (some 18) (.pointer (some ⟨dg, 0, none⟩)) [2, 3, 4, 13, 14, 15, 16] rfl rfl (by kernel_rfl) (by kernel_rfl) (by kernel_rfl) (by kernel_rfl) (fun _ _ _ h => h) hS (Or.inl ⟨rfl, fun w1 hw1 => by obtain ⟨q0, q1, q2, q3, q4⟩ := hw1; go_simp⟩) ?_
  simp only [Act.put, List.setIfInBounds_toArray, List.set_cons_zero, List.set_cons_succ]
  refine wpAnyK_takeTo 2 (some 19) (.pointer (some ⟨dg, 0, none⟩)) [3, 4, 13, 14, 15, 16] rfl rfl (by kernel_rfl) (by kernel_rfl) (by kernel_rfl) (by kernel_rfl) (fun _ _ _ h => h) hS (Or.inl ⟨rfl, fun w1 hw1 => by obtain ⟨q0, q1, q2, q3, q4⟩ := hw1; go_simp⟩) ?_
  simp only [Act.put, List.setIfInBounds_toArray, List.set_cons_zero, List.set_cons_succ]
  refine wpAnyK_takeTo 3 (some 20) (.pointer (some ⟨dg, 1, none⟩)) [4, 13, 14, 15, 16] rfl rfl (by kernel_rfl) (by kernel_rfl) (by kernel_rfl) (by kernel_rfl) (fun _ _ _ h => h) hS (Or.inl ⟨rfl, fun w1 hw1 => by obtain ⟨q0, q1, q2, q3, q4⟩ := hw1; go_simp⟩) ?_
  simp only [Act.put, List.setIfInBounds_toArray, List.set_cons_zero, List.set_cons_succ]
  refine wpAnyK_takeTo 4 (some 21) (.slice la1 n1 lc1) [13, 14, 15, 16] rfl rfl (by kernel_rfl) (by kernel_rfl) (by kernel_rfl) (by kernel_rfl) (fun _ _ _ h => h) hS (Or.inl ⟨rfl, fun w1 hw1 => by obtain ⟨q0, q1, q2, q3, q4⟩ := hw1; go_simp⟩) ?_
  simp only [Act.put, List.setIfInBounds_toArray, List.set_cons_zero, List.set_cons_succ]
  refine wpAnyK_takeTo 5 (some 22) (.pointer (some ⟨pg, 0, none⟩)) [6, 7, 8, 10, 11, 12, 13, 14, 15, 16] rfl rfl (by kernel_rfl) (by kernel_rfl) (by kernel_rfl) (by kernel_rfl) (fun _ _ _ h => h) hS (Or.inl ⟨rfl, fun w1 hw1 => by obtain ⟨q0, q1, q2, q3, q4⟩ := hw1; go_simp⟩) ?_
  simp only [Act.put, List.setIfInBounds_toArray, List.set_cons_zero, List.set_cons_succ]
  refine wpAnyK_takeTo 6 (some 23) (.pointer (some ⟨pg, 0, none⟩)) [7, 8, 10, 11, 12, 13, 14, 15, 16] rfl rfl (by kernel_rfl) (by kernel_rfl) (by kernel_rfl) (by kernel_rfl) (fun _ _ _ h => h) hS (Or.inl ⟨rfl, fun w1 hw1 => by obtain ⟨q0, q1, q2, q3, q4⟩ := hw1; go_simp⟩) ?_
  simp only [Act.put, List.setIfInBounds_toArray, List.set_cons_zero, List.set_cons_succ]
  refine wpAnyK_takeTo 7 (some 24) (.pointer (some ⟨pg, 1, none⟩)) [8, 10, 11, 12, 13, 14, 15, 16] rfl rfl (by kernel_rfl) (by kernel_rfl) (by kernel_rfl) (by kernel_rfl) (fun _ _ _ h => h) hS (Or.inl ⟨rfl, fun w1 hw1 => by obtain ⟨q0, q1, q2, q3, q4⟩ := hw1; go_simp⟩) ?_
  simp only [Act.put, List.setIfInBounds_toArray, List.set_cons_zero, List.set_cons_succ]
  refine wpAnyK_takeTo 8 (some 25) (.slice (some ⟨gl, 0, none⟩) n lc) [10, 11, 12, 13, 14, 15, 16] rfl rfl (by kernel_rfl) (by kernel_rfl) (by kernel_rfl) (by kernel_rfl) (fun _ _ _ h => h) hS (Or.inl ⟨rfl, fun w1 hw1 => by obtain ⟨q0, q1, q2, q3, q4⟩ := hw1; go_simp⟩) ?_
  simp only [Act.put, List.setIfInBounds_toArray, List.set_cons_zero, List.set_cons_succ]
  refine wpAnyK_takeTo 9 (some 26) (.int .i64 (i : Int)) [10, 11, 12, 13, 14, 15, 16] rfl rfl (by kernel_rfl) (by kernel_rfl) (by kernel_rfl) (by kernel_rfl) (fun _ _ _ h => h) hS (Or.inl ⟨rfl, fun w1 hw1 => by obtain ⟨q0, q1, q2, q3, q4⟩ := hw1; go_simp⟩) ?_
  simp only [Act.put, List.setIfInBounds_toArray, List.set_cons_zero, List.set_cons_succ]
  refine wpAnyK_takeTo 10 (some 27) (.pointer (some ⟨gl, i * 2, none⟩)) [11, 12, 13, 14, 15, 16] rfl rfl (by kernel_rfl) (by kernel_rfl) (by kernel_rfl) (by kernel_rfl) (fun _ _ _ h => h) hS (Or.inl ⟨rfl, fun w1 hw1 => by obtain ⟨q0, q1, q2, q3, q4⟩ := hw1; go_simp⟩) ?_
  simp only [Act.put, List.setIfInBounds_toArray, List.set_cons_zero, List.set_cons_succ]
  refine wpAnyK_takeTo 11 (some 28) (.agg #[.string mk, .int .i64 mv]) [12, 13, 14, 15, 16] rfl rfl (by kernel_rfl) (by kernel_rfl) (by kernel_rfl) (by kernel_rfl) (fun _ _ _ h => h) hS (Or.inl ⟨rfl, fun w1 hw1 => by obtain ⟨q0, q1, q2, q3, q4⟩ := hw1; go_simp⟩) ?_
  simp only [Act.put, List.setIfInBounds_toArray, List.set_cons_zero, List.set_cons_succ]
  have hk := H3d.keepL
  obtain ⟨_, vB⟩ := H3d.raw
  obtain ⟨a1, c1, W3, hr3, q1, q2, q3⟩ := app_item (w := Wd) (v := .slice la1 n1 lc1) (n := n1) (Le := Le) (by have h := vB.row; rw [HLN1.out] at h; exact h) mk mv (by omega)
  have hb1 : ∀ {Z : World}, Fr Wd Z (fun k => (Value.slice la1 n1 lc1).ownBlock = some k) → SMr dg pg gl i rg (.slice la1 n1 lc1) (.slice (some ⟨gl, 0, none⟩) n lc) (.slice (some ⟨gr, 0, none⟩) n2 lc2) mk mv Z := fun {Z} f => hS.fr f (hk _ (.inl rfl)) (hk _ (.inr (.inr (.inl (.inl rfl))))) (hk _ (.inr (.inr (.inl (.inr (.inl rfl)))))) (hk _ (.inr (.inr (.inr (.inl rfl)))))
  obtain ⟨n3, hn3⟩ : ∃ n3, n3 = n1 + 1 := ⟨_, rfl⟩
  have GA := Fr.alloc Wd (.cells #[.string mk, .int .i64 mv] 106) (fun k => (Value.slice la1 n1 lc1).ownBlock = some k)
  obtain ⟨VB, hVB⟩ : ∃ VB, VB = Wd.heap.size := ⟨_, rfl⟩
  obtain ⟨Wa, hWa⟩ : ∃ Wa, Wa = Wd.alloc (.cells #[.string mk, .int .i64 mv] 106) := ⟨_, rfl⟩
  rw [← hWa, ← hVB] at hr3
  rw [← hWa] at GA
  rw [← hn3] at hr3 q1 q3
  have hset := H3d.setL (w1 := W3) (la' := .slice a1 n3 c1) (LA' := Le ++ [⟨mk, mv⟩]) (by rw [show (Le ++ [(⟨mk, mv⟩ : It)]).length = n3 by rw [List.length_append, HLN1.out, hn3]; rfl]; exact q1) q2 q3
  obtain ⟨W5, hW5⟩ : ∃ W5, W5 = W3.setCell ⟨dg, 1, none⟩ (.slice a1 n3 c1) := ⟨_, rfl⟩
  rw [← hW5] at hset
  obtain ⟨H3, z1, z2⟩ := hset
  have hSa := hb1 GA
  have hS3 := hb1 q2
  have HWa := hide hWa
  have HVB := hide hVB
  have HN3 := hide hn3
  have HW5 := hide hW5
  clear hWa hVB hn3 hW5 hb1 q1 q2 q3 GA hk vB H3d
  refine wpAnyK_one (i := 12) (by kernel_rfl) rfl rfl ?_
  go_simp
  rw [← HWa.out, ← HVB.out]
  refine ⟨hSa, ?_⟩
  refine wpAnyK_one (i := 13) (by kernel_rfl) rfl rfl ?_
  refine wp_append_to (.tmp 21) (.tmp 29) 75 rfl (some 30) rfl 75 rfl _ _ rfl rfl _ W3 hr3 ?_
  simp only [Act.put, List.setIfInBounds_toArray, List.set_cons_zero, List.set_cons_succ]
  refine ⟨fun _ => hS3, ?_⟩
  clear hS hSa hS3 hr3
  refine wpAnyK_one (i := 14) (by kernel_rfl) rfl rfl ?_
  go_simp
  refine wpAnyK_one (i := 15) (by kernel_rfl) rfl rfl ?_
  go_simp
  refine wpAnyK_one (i := 16) (by kernel_rfl) rfl rfl ?_
  go_simp
  rw [← HW5.out]
  refine wpAnyK_done (by kernel_rfl) ?_ _
  clear HW5 z1 z2
  obtain ⟨_, vA⟩ := H3.ba.raw
  obtain ⟨_, vR⟩ := H3.cb.ba.raw
  have hS0 : SMs pg rg gr 0 (.slice (some ⟨gl, 0, none⟩) n lc) (.slice (some ⟨gr, 0, none⟩) n2 lc2) yk yv W5 := ⟨vA.cells.2.1, vR.cells.2.1, by
    obtain ⟨g, e, c⟩ := row_cell (by have h := vR.row; rw [HLN2.out] at h; exact h) (encI_get Lr 0 _ HX0.out).1
    cases e
    exact c, by
    obtain ⟨g, e, c⟩ := row_cell (by have h := vR.row; rw [HLN2.out] at h; exact h) (encI_get Lr 0 _ HX0.out).2
    cases e
    exact c⟩
  clear vA vR
  have hgr0 : 0 < n2 := by have h := (List.getElem?_eq_some_iff.1 HX0.out).1; rw [HLN2.out] at h; exact h
  go_wp2_with fail
  refine wp_region_K (fun z => decide (z < 12)) (SMs pg rg gr 0 (.slice (some ⟨gl, 0, none⟩) n lc) (.slice (some ⟨gr, 0, none⟩) n2 lc2) yk yv) (by kernel_rfl) ?_
  obtain ⟨Wd, hWd⟩ : ∃ Wd, Wd = W5.drew := ⟨_, rfl⟩
  have F1 : Fr W5 Wd (fun _ => False) := by rw [hWd]; exact Fr.drew _ _
  rw [← hWd]
  clear hWd
  have hS : SMs pg rg gr 0 (.slice (some ⟨gl, 0, none⟩) n lc) (.slice (some ⟨gr, 0, none⟩) n2 lc2) yk yv Wd := hS0.fr F1
  have H3d := H3.quiet F1
  clear F1 H3 hS0
  refine wpAnyK_takeTo 0 (some 33) (.pointer (some ⟨pg, 0, none⟩)) [1, 2, 3, 11, 12] rfl rfl (by kernel_rfl) (by kernel_rfl) (by kernel_rfl) (by kernel_rfl) (fun _ _ _ h => h) hS (Or.inl ⟨rfl, fun w1 hw1 => by obtain ⟨q0, q1, q2, q3⟩ := hw1; simp only [Nat.zero_mul, Nat.zero_add] at q2 q3; go_simp⟩) ?_
  simp only [Act.put, List.setIfInBounds_toArray, List.set_cons_zero, List.set_cons_succ]
  refine wpAnyK_takeTo 1 (some 34) (.pointer (some ⟨pg, 0, none⟩)) [2, 3, 11, 12] rfl rfl (by kernel_rfl) (by kernel_rfl) (by kernel_rfl) (by kernel_rfl) (fun _ _ _ h => h) hS (Or.inl ⟨rfl, fun w1 hw1 => by obtain ⟨q0, q1, q2, q3⟩ := hw1; simp only [Nat.zero_mul, Nat.zero_add] at q2 q3; go_simp⟩) ?_
  simp only [Act.put, List.setIfInBounds_toArray, List.set_cons_zero, List.set_cons_succ]
  refine wpAnyK_takeTo 2 (some 35) (.pointer (some ⟨pg, 1, none⟩)) [3, 11, 12] rfl rfl (by kernel_rfl) (by kernel_rfl) (by kernel_rfl) (by kernel_rfl) (fun _ _ _ h => h) hS (Or.inl ⟨rfl, fun w1 hw1 => by obtain ⟨q0, q1, q2, q3⟩ := hw1; simp only [Nat.zero_mul, Nat.zero_add] at q2 q3; go_simp⟩) ?_
  simp only [Act.put, List.setIfInBounds_toArray, List.set_cons_zero, List.set_cons_succ]
  refine wpAnyK_takeTo 3 (some 36) (.slice (some ⟨gl, 0, none⟩) n lc) [11, 12] rfl rfl (by kernel_rfl) (by kernel_rfl) (by kernel_rfl) (by kernel_rfl) (fun _ _ _ h => h) hS (Or.inl ⟨rfl, fun w1 hw1 => by obtain ⟨q0, q1, q2, q3⟩ := hw1; simp only [Nat.zero_mul, Nat.zero_add] at q2 q3; go_simp⟩) ?_
  simp only [Act.put, List.setIfInBounds_toArray, List.set_cons_zero, List.set_cons_succ]
  refine wpAnyK_takeTo 4 (some 37) (.int .i64 (i : Int)) [11, 12] rfl rfl (by kernel_rfl) (by kernel_rfl) (by kernel_rfl) (by kernel_rfl) (fun _ _ _ h => h) hS (Or.inl ⟨rfl, fun w1 hw1 => by obtain ⟨q0, q1, q2, q3⟩ := hw1; simp only [Nat.zero_mul, Nat.zero_add] at q2 q3; go_simp⟩) ?_
  simp only [Act.put, List.setIfInBounds_toArray, List.set_cons_zero, List.set_cons_succ]
  refine wpAnyK_takeTo 5 (some 38) (.pointer (some ⟨rg, 0, none⟩)) [6, 7, 8, 9, 10, 11, 12] rfl rfl (by kernel_rfl) (by kernel_rfl) (by kernel_rfl) (by kernel_rfl) (fun _ _ _ h => h) hS (Or.inl ⟨rfl, fun w1 hw1 => by obtain ⟨q0, q1, q2, q3⟩ := hw1; simp only [Nat.zero_mul, Nat.zero_add] at q2 q3; go_simp⟩) ?_
  simp only [Act.put, List.setIfInBounds_toArray, List.set_cons_zero, List.set_cons_succ]
  refine wpAnyK_takeTo 6 (some 39) (.pointer (some ⟨rg, 0, none⟩)) [7, 8, 9, 10, 11, 12] rfl rfl (by kernel_rfl) (by kernel_rfl) (by kernel_rfl) (by kernel_rfl) (fun _ _ _ h => h) hS (Or.inl ⟨rfl, fun w1 hw1 => by obtain ⟨q0, q1, q2, q3⟩ := hw1; simp only [Nat.zero_mul, Nat.zero_add] at q2 q3; go_simp⟩) ?_
  simp only [Act.put, List.setIfInBounds_toArray, List.set_cons_zero, List.set_cons_succ]
  refine wpAnyK_takeTo 7 (some 40) (.pointer (some ⟨rg, 1, none⟩)) [8, 9, 10, 11, 12] rfl rfl (by kernel_rfl) (by kernel_rfl) (by kernel_rfl) (by kernel_rfl) (fun _ _ _ h => h) hS (Or.inl ⟨rfl, fun w1 hw1 => by obtain ⟨q0, q1, q2, q3⟩ := hw1; simp only [Nat.zero_mul, Nat.zero_add] at q2 q3; go_simp⟩) ?_
  simp only [Act.put, List.setIfInBounds_toArray, List.set_cons_zero, List.set_cons_succ]
  refine wpAnyK_takeTo 8 (some 41) (.slice (some ⟨gr, 0, none⟩) n2 lc2) [9, 10, 11, 12] rfl rfl (by kernel_rfl) (by kernel_rfl) (by kernel_rfl) (by kernel_rfl) (fun _ _ _ h => h) hS (Or.inl ⟨rfl, fun w1 hw1 => by obtain ⟨q0, q1, q2, q3⟩ := hw1; simp only [Nat.zero_mul, Nat.zero_add] at q2 q3; go_simp⟩) ?_
  simp only [Act.put, List.setIfInBounds_toArray, List.set_cons_zero, List.set_cons_succ]
  refine wpAnyK_takeTo 9 (some 42) (.pointer (some ⟨gr, 0, none⟩)) [10, 11, 12] rfl rfl (by kernel_rfl) (by kernel_rfl) (by kernel_rfl) (by kernel_rfl) (fun _ _ _ h => h) hS (Or.inl ⟨rfl, fun w1 hw1 => by obtain ⟨q0, q1, q2, q3⟩ := hw1; simp only [Nat.zero_mul, Nat.zero_add] at q2 q3; go_simp⟩) ?_
  simp only [Act.put, List.setIfInBounds_toArray, List.set_cons_zero, List.set_cons_succ]
  refine wpAnyK_takeTo 10 (some 43) (.agg #[.string yk, .int .i64 yv]) [11, 12] rfl rfl (by kernel_rfl) (by kernel_rfl) (by kernel_rfl) (by kernel_rfl) (fun _ _ _ h => h) hS (Or.inl ⟨rfl, fun w1 hw1 => by obtain ⟨q0, q1, q2, q3⟩ := hw1; simp only [Nat.zero_mul, Nat.zero_add] at q2 q3; go_simp⟩) ?_
  simp only [Act.put, List.setIfInBounds_toArray, List.set_cons_zero, List.set_cons_succ]
  refine wpAnyK_takeTo 11 (some 44) (.pointer (some ⟨gl, i * 2, none⟩)) [12] rfl rfl (by kernel_rfl) (by kernel_rfl) (by kernel_rfl) (by kernel_rfl) (fun _ _ _ h => h) hS (Or.inl ⟨rfl, fun w1 hw1 => by obtain ⟨q0, q1, q2, q3⟩ := hw1; simp only [Nat.zero_mul, Nat.zero_add] at q2 q3; go_simp⟩) ?_
  simp only [Act.put, List.setIfInBounds_toArray, List.set_cons_zero, List.set_cons_succ]
  have H3p := H3d.ba.putI HLN.out hin yk yv
  obtain ⟨_, vA⟩ := H3d.ba.raw
  obtain ⟨w1a, w1b⟩ : Wd.cell? ⟨gl, i * 2, none⟩ = some (.string mk) ∧ Wd.cell? ⟨gl, i * 2 + 1, none⟩ = some (.int .i64 mv) := by
    obtain ⟨g, e, c⟩ := row_cell (by have h := vA.row; rw [HLN.out] at h; exact h) (encI_get L i _ HMK.out).1
    cases e
    obtain ⟨g, e, c'⟩ := row_cell (by have h := vA.row; rw [HLN.out] at h; exact h) (encI_get L i _ HMK.out).2
    cases e
    exact ⟨c, c'⟩
  have hfz : ∀ j, Wd.frozen? ⟨gl, j, none⟩ = false := fun j => by
    obtain ⟨c, hc⟩ := own_type vA.row (k := gl) rfl
    exact block_frozen hc j
  have f1 := hfz (i * 2)
  have f2 := hfz (i * 2 + 1)
  obtain ⟨W6, hW6⟩ : ∃ W6, W6 = (Wd.setCell ⟨gl, i * 2, none⟩ (.string yk)).setCell ⟨gl, i * 2 + 1, none⟩ (.int .i64 yv) := ⟨_, rfl⟩
  rw [← hW6] at H3p
  have HW6 := hide hW6
  clear hW6 vA hfz H3d hS
  refine wpAnyK_one (i := 12) (by kernel_rfl) rfl rfl ?_
  go_simp
  rw [← HW6.out]
  refine wpAnyK_done (by kernel_rfl) ?_ _
  clear HW6 w1a w1b f1 f2
  have H3c := H3p.ba.cb.ba
  clear H3p
  obtain ⟨_, vR⟩ := H3c.raw
  have xR := vR.cells.2.1
  have HDI := hide (show Calls Tryz.prog 56 #[.slice (some ⟨gr, 0, none⟩) n2 lc2, .int .i64 0, .int .i64 1] W6 _ from deleteI (w := W6) (.slice (some ⟨gr, 0, none⟩) n2 lc2) n2 (encI Lr) (by have h := vR.row; rw [HLN2.out] at h; exact h) (encI_one Lr) 0 1 (n2 - 1) (by omega) (by omega) (by omega) (by omega))
  obtain ⟨n4, hn4⟩ : ∃ n4, n4 = n2 - 1 := ⟨_, rfl⟩
  rw [← hn4] at HDI
  have hlt4 : (Lr.drop 1).length = n4 := by rw [List.length_drop, HLN2.out, hn4]
  have he4 : (encI Lr).take (0 * 2) ++ (encI Lr).drop (1 * 2) = encI (Lr.drop 1) := by rw [encI_drop]; simp
  have HL4 := hide hlt4
  have HE4 := hide he4
  have HN4 := hide hn4
  clear hlt4 he4 hn4 vR
  go_wp2_with fail
  refine HDI.out.mono ?_
  rintro en V7 ⟨v7, rfl, hr7, hb7, g7⟩
  obtain ⟨a7, c7, rfl⟩ := shape_n hr7
  rw [HE4.out] at hr7
  have hset := H3c.setL (w1 := V7) (la' := .slice a7 n4 c7) (LA' := Lr.drop 1) (by rw [HL4.out]; exact hr7) g7 (.inl hb7)
  obtain ⟨W7, hW7⟩ : ∃ W7, W7 = V7.setCell ⟨rg, 1, none⟩ (.slice a7 n4 c7) := ⟨_, rfl⟩
  rw [← hW7] at hset
  obtain ⟨H3, z1, z2⟩ := hset
  have HW7 := hide hW7
  have HLR7 : Hid (∃ A, Raw W7 rg cur (.slice a7 n4 c7) (.slice rk m2 rkc) (Lr.drop 1) gR A) := hide H3.raw
  clear hW7 hr7 hb7 g7 H3c xR HDI
  go_wp2_with (rw [← HW7.out]; clear HW7)
  clear z1 z2
  obtain ⟨_, vR⟩ := HLR7.out
  refine (last_raw vR).mono ?_
  rintro en W7x ⟨rfl, hw7x⟩
  rw [hw7x]
  clear hw7x
  rw [HlR.out]
  obtain ⟨b, hb⟩ : ∃ b, b = decide (m2 = 0) := ⟨_, rfl⟩
  rw [← hb]
  clear vR
  by_cases hm0 : m2 = 0
  · have hb' : b = true := by rw [hb]; simpa using hm0
    rw [hb']
    have hh : h = 0 := by
      rcases HKD2.out.len with ⟨h0, _⟩ | ⟨_, h1⟩
      · exact h0
      · have := HM2.out; omega
    clear hb hb'
    go_wp2_with fail
    obtain ⟨SB', SA', SR', rB, rA, rR, sB, sA, sR, aBA, aBR, aAR, f9⟩ := H3.ba.cb
    have e1 : kse = [] := by have h := HKDD.out; rw [hh] at h; exact h
    have e2 : ksr = [] := by have h := HKD2.out; rw [hh] at h; exact h
    obtain ⟨y0, Lr', hlr0⟩ : ∃ y0 Lr', Lr = y0 :: Lr' := by
      cases Lr with
      | nil => have h := HX0.out; simp at h
      | cons y l => exact ⟨y, l, rfl⟩
    have hy0 : y0 = ⟨yk, yv⟩ := by have h := HX0.out; rw [hlr0] at h; simpa using h
    have hs1 := Hf1.out.size
    have HRES := rot_fin (w := w) (A := ks.take i) (B := ks.drop (i + 2)) HN2.out HK2.out (by rw [List.length_take]; have := HIL.out; omega) HNDD.out HKDD.out HND2.out HKD2.out HMK.out HDG.out HRG.out (HF2.out.trans HF1.out) (by rw [← HPG.out]; exact rA) rB rR (y := ⟨yk, yv⟩) (List.set_eq_take_append_cons_drop.trans (if_pos (by rw [HLN.out]; exact hin))) HGA.out (kB := []) (kC := []) (by rw [HGB.out, e1]) (by rw [HGR.out, e2]) (by rw [hlr0, hy0]; simp) (by rw [e1, e2]) (fun hn0 => absurd hh hn0) ⟨by have := HLE.out; rw [List.length_append]; simp; omega, by have := HLE.out; rw [List.length_append]; simp; omega⟩ ⟨by have := HLR.out; rw [List.length_drop]; omega, by have := HND2.out.high; rw [List.length_drop]; omega⟩ sA sB sR (fun k ha hb => aBA k hb ha) aAR aBR HSA.out.1 (HSA.out.2.1 trivial) HSA.out.2.2 HSB.out.1 (HSB.out.2.1 trivial) HSB.out.2.2 HSR.out.1 (HSR.out.2.1 trivial) HSR.out.2.2 (fun k hk => (HX2.out k hk).elim (HX1.out k) (fun h => .inr (by omega))) (fun k hk => (HY2.out k hk).elim (HY1.out k) (fun h => .inr (by omega))) ((Hf1.out.trans Hf2.out).mono (fun k _ hz => hz.elim (HN.out.ky rfl k) (HN.out.ky rfl k))) (f9.mono (fun k _ hz => by
      rcases hz with h | h | h | h
      · exact .inr (.inl h)
      · exact .inl h
      · exact .inr (.inr (.inl h))
      · exact .inr (.inr (.inr h))))
    rw [show (Le ++ [(⟨mk, mv⟩ : It)]).length = Le.length + 1 from List.length_append, List.length_drop] at HRES
    rw [show (⟨mk, mv⟩ : It) = x from Option.some.inj (HMK.out.symm.trans HXX.out)] at HRES
    go_end0
    exact HRES
  · have hb' : b = false := by rw [hb]; simpa using hm0
    rw [hb']
    have hh : h ≠ 0 := fun h0 => hm0 (by
      rcases HKD2.out.len with ⟨_, h1⟩ | ⟨h1, _⟩
      · rw [← HM2.out]; exact h1
      · exact absurd h0 h1)
    clear hb hb'
    obtain ⟨kg, gT, hgT⟩ : ∃ kg gT, gR = kg :: gT := by
      cases gR with
      | nil => have h := HlR.out; simp at h; omega
      | cons x l => exact ⟨x, l, rfl⟩
    have H3 := H3.ba.cb
    obtain ⟨_, vB⟩ := H3.raw
    obtain ⟨_, vR⟩ := H3.cb.ba.raw
    obtain ⟨gk, rfl, ck⟩ := row_cell (by have h := vR.krow; rw [HlR.out] at h; exact h) (show (pts gR)[0]? = some (.pointer (some ⟨kg, 0, none⟩)) by rw [hgT]; rfl)
    have hS0 : SKs dg rg gk 0 kg (.slice ka1 m1 kc1) (.slice (some ⟨gk, 0, none⟩) m2 rkc) W7 := ⟨vB.cells.2.2, vR.cells.2.2, ck⟩
    have HGT := hide hgT
    clear vB vR ck hgT HLR7
    go_wp2_with fail
    refine wp_region_K (fun z => decide (z < 13)) (SKs dg rg gk 0 kg (.slice ka1 m1 kc1) (.slice (some ⟨gk, 0, none⟩) m2 rkc)) (by kernel_rfl) ?_
    obtain ⟨Wd, hWd⟩ : ∃ Wd, Wd = W7.drew := ⟨_, rfl⟩
    have F1 : Fr W7 Wd (fun _ => False) := by rw [hWd]; exact Fr.drew _ _
    rw [← hWd]
    clear hWd
    have hS : SKs dg rg gk 0 kg (.slice ka1 m1 kc1) (.slice (some ⟨gk, 0, none⟩) m2 rkc) Wd := hS0.fr F1 (fun h => h) (fun h => h) (fun h => h)
    have H3d := H3.quiet F1
    clear F1 H3 hS0
    refine wpAnyK_takeTo 0 (some 56) (.pointer (some ⟨dg, 0, none⟩)) [13, 14, 15] rfl rfl (by kernel_rfl) (by kernel_rfl) (by kernel_rfl) (by kernel_rfl) (fun _ _ _ h => h) hS (Or.inl ⟨rfl, fun w1 hw1 => by obtain ⟨q0, q1, q2⟩ := hw1; go_simp⟩) ?_
    simp only [Act.put, List.setIfInBounds_toArray, List.set_cons_zero, List.set_cons_succ]
    refine wpAnyK_takeTo 1 (some 57) (.pointer (some ⟨dg, 0, none⟩)) [2, 3, 4, 12, 13, 14, 15] rfl rfl (by kernel_rfl) (by kernel_rfl) (by kernel_rfl) (by kernel_rfl) (fun _ _ _ h => h) hS (Or.inl ⟨rfl, fun w1 hw1 => by obtain ⟨q0, q1, q2⟩ := hw1; go_simp⟩) ?_
    simp only [Act.put, List.setIfInBounds_toArray, List.set_cons_zero, List.set_cons_succ]
    refine wpAnyK_takeTo 2 (some 58) (.pointer (some ⟨dg, 0, none⟩)) [3, 4, 12, 13, 14, 15] rfl rfl (by kernel_rfl) (by kernel_rfl) (by kernel_rfl) (by kernel_rfl) (fun _ _ _ h => h) hS (Or.inl ⟨rfl, fun w1 hw1 => by obtain ⟨q0, q1, q2⟩ := hw1; go_simp⟩) ?_
    simp only [Act.put, List.setIfInBounds_toArray, List.set_cons_zero, List.set_cons_succ]
    refine wpAnyK_takeTo 3 (some 59) (.pointer (some ⟨dg, 2, none⟩)) [4, 12, 13, 14, 15] rfl rfl (by kernel_rfl) (by kernel_rfl) (by kernel_rfl) (by kernel_rfl) (fun _ _ _ h => h) hS (Or.inl ⟨rfl, fun w1 hw1 => by obtain ⟨q0, q1, q2⟩ := hw1; go_simp⟩) ?_
    simp only [Act.put, List.setIfInBounds_toArray, List.set_cons_zero, List.set_cons_succ]
    refine wpAnyK_takeTo 4 (some 60) (.slice ka1 m1 kc1) [12, 13, 14, 15] rfl rfl (by kernel_rfl) (by kernel_rfl) (by kernel_rfl) (by kernel_rfl) (fun _ _ _ h => h) hS (Or.inl ⟨rfl, fun w1 hw1 => by obtain ⟨q0, q1, q2⟩ := hw1; go_simp⟩) ?_
    simp only [Act.put, List.setIfInBounds_toArray, List.set_cons_zero, List.set_cons_succ]
    refine wpAnyK_takeTo 5 (some 61) (.pointer (some ⟨rg, 0, none⟩)) [6, 7, 8, 9, 10, 11, 12, 13, 14, 15] rfl rfl (by kernel_rfl) (by kernel_rfl) (by kernel_rfl) (by kernel_rfl) (fun _ _ _ h => h) hS (Or.inl ⟨rfl, fun w1 hw1 => by obtain ⟨q0, q1, q2⟩ := hw1; go_simp⟩) ?_
    simp only [Act.put, List.setIfInBounds_toArray, List.set_cons_zero, List.set_cons_succ]
    refine wpAnyK_takeTo 6 (some 62) (.pointer (some ⟨rg, 0, none⟩)) [7, 8, 9, 10, 11, 12, 13, 14, 15] rfl rfl (by kernel_rfl) (by kernel_rfl) (by kernel_rfl) (by kernel_rfl) (fun _ _ _ h => h) hS (Or.inl ⟨rfl, fun w1 hw1 => by obtain ⟨q0, q1, q2⟩ := hw1; go_simp⟩) ?_
    simp only [Act.put, List.setIfInBounds_toArray, List.set_cons_zero, List.set_cons_succ]
    refine wpAnyK_takeTo 7 (some 63) (.pointer (some ⟨rg, 2, none⟩)) [8, 9, 10, 11, 12, 13, 14, 15] rfl rfl (by kernel_rfl) (by kernel_rfl) (by kernel_rfl) (by kernel_rfl) (fun _ _ _ h => h) hS (Or.inl ⟨rfl, fun w1 hw1 => by obtain ⟨q0, q1, q2⟩ := hw1; go_simp⟩) ?_
    simp only [Act.put, List.setIfInBounds_toArray, List.set_cons_zero, List.set_cons_succ]
    refine wpAnyK_takeTo 8 (some 64) (.slice (some ⟨gk, 0, none⟩) m2 rkc) [9, 10, 11, 12, 13, 14, 15] rfl rfl (by kernel_rfl) (by kernel_rfl) (by kernel_rfl) (by kernel_rfl) (fun _ _ _ h => h) hS (Or.inl ⟨rfl, fun w1 hw1 => by obtain ⟨q0, q1, q2⟩ := hw1; go_simp⟩) ?_
    simp only [Act.put, List.setIfInBounds_toArray, List.set_cons_zero, List.set_cons_succ]
    refine wpAnyK_takeTo 9 (some 65) (.pointer (some ⟨gk, 0, none⟩)) [10, 11, 12, 13, 14, 15] rfl rfl (by kernel_rfl) (by kernel_rfl) (by kernel_rfl) (by kernel_rfl) (fun _ _ _ h => h) hS (Or.inl ⟨rfl, fun w1 hw1 => by obtain ⟨q0, q1, q2⟩ := hw1; go_simp⟩) ?_
    simp only [Act.put, List.setIfInBounds_toArray, List.set_cons_zero, List.set_cons_succ]
    refine wpAnyK_takeTo 10 (some 66) (.pointer (some ⟨kg, 0, none⟩)) [11, 12, 13, 14, 15] rfl rfl (by kernel_rfl) (by kernel_rfl) (by kernel_rfl) (by kernel_rfl) (fun _ _ _ h => h) hS (Or.inl ⟨rfl, fun w1 hw1 => by obtain ⟨q0, q1, q2⟩ := hw1; go_simp⟩) ?_
    simp only [Act.put, List.setIfInBounds_toArray, List.set_cons_zero, List.set_cons_succ]
    have hk := H3d.keepK
    obtain ⟨_, vB⟩ := H3d.raw
    obtain ⟨a1', c1', W8, hr8, q1, q2, q3⟩ := app_kid (w := Wd) (v := .slice ka1 m1 kc1) (n := m1) (gs := gB) (by have h := vB.krow; rw [HlB.out] at h; exact h) kg (by omega)
    have hb1 : ∀ {Z : World}, Fr Wd Z (fun k => (Value.slice ka1 m1 kc1).ownBlock = some k) → SKs dg rg gk 0 kg (.slice ka1 m1 kc1) (.slice (some ⟨gk, 0, none⟩) m2 rkc) Z := fun {Z} f => hS.fr f (hk _ (.inl rfl)) (hk _ (.inr (.inr (.inr (.inl rfl))))) (hk _ (.inr (.inr (.inr (.inr (.inr rfl))))))
    obtain ⟨m3, hm3⟩ : ∃ m3, m3 = m1 + 1 := ⟨_, rfl⟩
    have GA := Fr.alloc Wd (.cells #[.pointer (some ⟨kg, 0, none⟩)] 74) (fun k => (Value.slice ka1 m1 kc1).ownBlock = some k)
    obtain ⟨VB', hVB⟩ : ∃ VB', VB' = Wd.heap.size := ⟨_, rfl⟩
    obtain ⟨Wa', hWa⟩ : ∃ Wa', Wa' = Wd.alloc (.cells #[.pointer (some ⟨kg, 0, none⟩)] 74) := ⟨_, rfl⟩
    rw [← hWa, ← hVB] at hr8
    rw [← hWa] at GA
    rw [← hm3] at hr8 q1 q3
    have hset := H3d.setK (w1 := W8) (ka' := .slice a1' m3 c1') (hA' := gB ++ [kg]) (by rw [show (gB ++ [kg]).length = m3 by rw [List.length_append, HlB.out, hm3]; rfl]; exact q1) q2 q3
    obtain ⟨W9, hW9⟩ : ∃ W9, W9 = W8.setCell ⟨dg, 2, none⟩ (.slice a1' m3 c1') := ⟨_, rfl⟩
    rw [← hW9] at hset
    obtain ⟨H3, z1, z2⟩ := hset
    have hSa := hb1 GA
    have hS3 := hb1 q2
    have HWa' := hide hWa
    have HVB' := hide hVB
    have HM3 := hide hm3
    have HW9 := hide hW9
    clear hWa hVB hm3 hW9 hb1 q1 q2 q3 GA hk vB H3d
    refine wpAnyK_one (i := 11) (by kernel_rfl) rfl rfl ?_
    go_simp
    rw [← HWa'.out, ← HVB'.out]
    refine ⟨hSa, ?_⟩
    refine wpAnyK_one (i := 12) (by kernel_rfl) rfl rfl ?_
    refine wp_append_to (.tmp 60) (.tmp 67) 76 rfl (some 68) rfl 76 rfl _ _ rfl rfl _ W8 hr8 ?_
    simp only [Act.put, List.setIfInBounds_toArray, List.set_cons_zero, List.set_cons_succ]
    refine ⟨fun _ => hS3, ?_⟩
    clear hS hSa hS3 hr8
    refine wpAnyK_one (i := 13) (by kernel_rfl) rfl rfl ?_
    go_simp
    refine wpAnyK_one (i := 14) (by kernel_rfl) rfl rfl ?_
    go_simp
    refine wpAnyK_one (i := 15) (by kernel_rfl) rfl rfl ?_
    go_simp
    rw [← HW9.out]
    refine wpAnyK_done (by kernel_rfl) ?_ _
    clear HW9 z1 z2
    have H3c := H3.cb.ba
    clear H3
    obtain ⟨_, vR⟩ := H3c.raw
    have xR := vR.cells.2.2
    have hm2p : 1 ≤ m2 := by omega
    have HDK := hide (show Calls Tryz.prog 89 #[.slice (some ⟨gk, 0, none⟩) m2 rkc, .int .i64 0, .int .i64 1] W9 _ from deleteK (w := W9) (.slice (some ⟨gk, 0, none⟩) m2 rkc) m2 (pts gR) (by have h := vR.krow; rw [HlR.out] at h; exact h) (pts_one gR) 0 1 (m2 - 1) (by omega) (by omega) (by omega) (by omega))
    obtain ⟨m4, hm4⟩ : ∃ m4, m4 = m2 - 1 := ⟨_, rfl⟩
    rw [← hm4] at HDK
    have hlt4 : (gR.drop 1).length = m4 := by rw [List.length_drop, HlR.out, hm4]
    have he4 : (pts gR).take (0 * 1) ++ (pts gR).drop (1 * 1) = pts (gR.drop 1) := by rw [pts_drop]; simp
    have HL5 := hide hlt4
    have HE5 := hide he4
    have HM4 := hide hm4
    clear hlt4 he4 hm4 vR
    go_wp2_with fail
    refine HDK.out.mono ?_
    rintro en V10 ⟨v10, rfl, hr10, hb10, g10⟩
    obtain ⟨a10, c10, rfl⟩ := shape_n hr10
    rw [HE5.out] at hr10
    have hset := H3c.setK (w1 := V10) (ka' := .slice a10 m4 c10) (hA' := gR.drop 1) (by rw [HL5.out]; exact hr10) g10 (.inl hb10)
    obtain ⟨W10, hW10⟩ : ∃ W10, W10 = V10.setCell ⟨rg, 2, none⟩ (.slice a10 m4 c10) := ⟨_, rfl⟩
    rw [← hW10] at hset
    obtain ⟨H3, z1, z2⟩ := hset
    have HW10 := hide hW10
    clear hW10 hr10 hb10 g10 H3c xR HDK
    go_wp2_with (rw [← HW10.out]; clear HW10)
    clear z1 z2
    obtain ⟨SB', SA', SR', rB, rA, rR, sB, sA, sR, aBA, aBR, aAR, f9⟩ := H3.ba.cb
    obtain ⟨q0, kT, hkT⟩ : ∃ q0 kT, ksr = q0 :: kT := by
      cases ksr with
      | nil => have h := HM2.out; simp at h; omega
      | cons x l => exact ⟨x, l, rfl⟩
    have hq0 : kg = q0.g ∧ gT = kT.map Kd.g := by
      have h := HGR.out
      rw [HGT.out, hkT] at h
      simpa using h
    obtain ⟨hp, hhp⟩ : ∃ hp, h = hp + 1 := ⟨h - 1, by omega⟩
    have hlE : kse.length = Le.length + 1 := by have h := HKDD.out; rw [hhp] at h; exact h.1
    have hlR' : ksr.length = Lr.length + 1 := by have h := HKD2.out; rw [hhp] at h; exact h.1
    obtain ⟨y0, Lr', hlr0⟩ : ∃ y0 Lr', Lr = y0 :: Lr' := by
      cases Lr with
      | nil => have h := HX0.out; simp at h
      | cons y l => exact ⟨y, l, rfl⟩
    have hy0 : y0 = ⟨yk, yv⟩ := by have h := HX0.out; rw [hlr0] at h; simpa using h
    have hs1 := Hf1.out.size
    have HRES := rot_fin (w := w) (A := ks.take i) (B := ks.drop (i + 2)) HN2.out HK2.out (by rw [List.length_take]; have := HIL.out; omega) HNDD.out HKDD.out HND2.out HKD2.out HMK.out HDG.out HRG.out (HF2.out.trans HF1.out) (by rw [← HPG.out]; exact rA) rB rR (y := ⟨yk, yv⟩) (List.set_eq_take_append_cons_drop.trans (if_pos (by rw [HLN.out]; exact hin))) HGA.out (kB := kse ++ [q0]) (kC := ksr.drop 1) (by rw [HGB.out, hq0.1]; simp) (by rw [HGR.out]; simp) (by rw [hlr0, hy0]; simp) (by rw [hkT]; simp) (fun _ => ⟨by rw [List.length_append, List.length_append, hlE]; rfl, by rw [List.length_drop, List.length_drop, hlR']; have := HLR.out; omega⟩) ⟨by have := HLE.out; rw [List.length_append]; simp; omega, by have := HLE.out; rw [List.length_append]; simp; omega⟩ ⟨by have := HLR.out; rw [List.length_drop]; omega, by have := HND2.out.high; rw [List.length_drop]; omega⟩ sA sB sR (fun k ha hb => aBA k hb ha) aAR aBR HSA.out.1 (HSA.out.2.1 trivial) HSA.out.2.2 HSB.out.1 (HSB.out.2.1 trivial) HSB.out.2.2 HSR.out.1 (HSR.out.2.1 trivial) HSR.out.2.2 (fun k hk => (HX2.out k hk).elim (HX1.out k) (fun h => .inr (by omega))) (fun k hk => (HY2.out k hk).elim (HY1.out k) (fun h => .inr (by omega))) ((Hf1.out.trans Hf2.out).mono (fun k _ hz => hz.elim (HN.out.ky rfl k) (HN.out.ky rfl k))) (f9.mono (fun k _ hz => by
      rcases hz with h | h | h | h
      · exact .inr (.inl h)
      · exact .inl h
      · exact .inr (.inr (.inl h))
      · exact .inr (.inr (.inr h))))
    rw [show (Le ++ [(⟨mk, mv⟩ : It)]).length = Le.length + 1 from List.length_append, List.length_drop] at HRES
    rw [show (⟨mk, mv⟩ : It) = x from Option.some.inj (HMK.out.symm.trans HXX.out)] at HRES
    go_end0
    exact HRES
end Go.Proofs.YtigkinakhijfoaaGreat
