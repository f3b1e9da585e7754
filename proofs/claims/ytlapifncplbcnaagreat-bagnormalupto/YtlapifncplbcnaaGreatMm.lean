/- A fact of one number; awake. -/
import Derived.Test.YtlapifncplbcnaaGreatMp
import Derived.Test.YtlapifncplbcnaaGreatMk
namespace Go.Proofs.YtlapifncplbcnaaGreat
open Go.RowKit Go.Sort Go.Shelf
set_option maxRecDepth 100000
set_option linter.unusedVariables false
set_option linter.unusedSimpArgs false

theorem infoFact : (Tryz.prog.info? 59).map (·.size) = some 3 := by kernel_rfl
theorem results_fact {fn : Func} {p : Tmp} (h : fn.results = #[.cell p 59]) (tmps : Array Value) (w : World) (g : Nat) {x y z : Value} (ht : w.rangeAt g 0 [x, y, z]) (hp : tmps.getD p undef = .pointer (some ⟨g, 0, none⟩)) :
    (results fn tmps).run Tryz.prog w = .ok (.agg #[x, y, z]) w := by
  have hp' : tmps[p]?.getD undef = .pointer (some ⟨g, 0, none⟩) := by simpa using hp
  simp [results, h, hp', asAddr, run_loadVar_mid (P := Tryz.prog) w g 0 59 [x, y, z] _ ht Tryz.underlying59 rfl infoFact]
theorem Three.range {w : World} {g : Nat} {p q r : Value} (h : Three w g p q r) : w.rangeAt g 0 [p, q, r] := by
  intro j u hu
  match j, hu with
  | 0, hu => simp at hu; subst hu; exact h.1
  | 1, hu => simp at hu; subst hu; exact h.2.1
  | 2, hu => simp at hu; subst hu; exact h.2.2.1
  | j + 3, hu => simp at hu
theorem Three.set0 {w : World} {g : Nat} {p q r : Value} (h : Three w g p q r) (v : Value) : Three (w.setCell ⟨g, 0, none⟩ v) g v q r :=
  ⟨World.cell?_setCell_same _ _ _ h.1, by rw [World.cell?_setCell_other _ _ _ _ (by simp)]; exact h.2.1, by rw [World.cell?_setCell_other _ _ _ _ (by simp)]; exact h.2.2.1, fun j => by rw [World.frozen?_setCell]; exact h.2.2.2 j⟩
theorem Three.set1 {w : World} {g : Nat} {p q r : Value} (h : Three w g p q r) (v : Value) : Three (w.setCell ⟨g, 1, none⟩ v) g p v r :=
  ⟨by rw [World.cell?_setCell_other _ _ _ _ (by simp)]; exact h.1, World.cell?_setCell_same _ _ _ h.2.1, by rw [World.cell?_setCell_other _ _ _ _ (by simp)]; exact h.2.2.1, fun j => by rw [World.frozen?_setCell]; exact h.2.2.2 j⟩
theorem Three.set2 {w : World} {g : Nat} {p q r : Value} (h : Three w g p q r) (v : Value) : Three (w.setCell ⟨g, 2, none⟩ v) g p q v :=
  ⟨by rw [World.cell?_setCell_other _ _ _ _ (by simp)]; exact h.1, by rw [World.cell?_setCell_other _ _ _ _ (by simp)]; exact h.2.1, World.cell?_setCell_same _ _ _ h.2.2.1, fun j => by rw [World.frozen?_setCell]; exact h.2.2.2 j⟩
def oneR (n : Int) : List Val := [⟨1, n, []⟩]
set_option maxHeartbeats 4000000 in
theorem fact_any (n lo hi : Int) (w : World) : Calls Tryz.prog 39 #[.int .i64 n, .int .i64 lo, .int .i64 hi] w fun e w' => ∃ p c, e = .returned (.agg #[.slice p 1 c, .int .i64 lo, .int .i64 hi]) ∧ Rok w' (fun k => w.heap.size ≤ k) p c (oneR n) ∧ Fr w w' (fun _ => False) := by
  go_enter Tryz.func39, Tryz.ntmps39
  go_wp2_with fail
  refine bodyPost_ret (results_fact Tryz.results39 _ _ w.heap.size (Three.range ((three_of (heap_alloc_new w _)).fr (Fr.alloc _ _ (fun _ => False)) (fun h => h))) rfl) rfl ⟨some ⟨w.heap.size + 1, 0, none⟩, 1, rfl, ⟨row_vals ?_, (fun e => by cases e), by simp [oneR], by simp [oneR], fun g off e _ => ?_⟩, up_two⟩
  · obtain ⟨wa, hwa⟩ : ∃ wa, wa = w.alloc (.cells #[.slice (some ⟨w.heap.size + 1, 0, none⟩) 1 1, .int .i64 lo, .int .i64 hi] 59) := ⟨_, rfl⟩
    have hz : wa.heap.size = w.heap.size + 1 := by rw [hwa]; simp
    rw [← hwa, ← hz]
    exact Row.new elV wa (oneR n) _ rfl
  · injection e with e
    injection e with e1 _
    omega
theorem FIn.one {w : World} {P : Nat → Prop} (f : Ft) (h : Rok w P f.p f.c f.row) (cs : Array Value) (hcs : cs = #[.slice f.p f.row.length f.c, .int .i64 f.lo, .int .i64 f.hi]) : FIn (w.alloc (.cells cs 59)) ⟨some ⟨w.heap.size, 0, none⟩, 1, [f]⟩ := by
  subst hcs
  refine ⟨Row.new elF w [f] _ rfl, (fun e => by cases e), fun f' hf' => ?_⟩
  simp only [List.mem_singleton] at hf'
  subst hf'
  exact (h.fr (Fr.alloc w _ (fun _ => False)) (fun _ _ _ h => h)).mono (fun _ _ _ => trivial)
theorem NF.row {r : List Val} {F : List Fa} (hr : ∀ f ∈ F, f.row = r) (hl : Lam (F.map Fa.iv)) (hs : F.Pairwise (fun x y => ordA x y ≤ 0)) : NF F := by
  refine ⟨fun r' => ?_, hs⟩
  by_cases e : r = r'
  · subst e; rw [fam_all hr]; exact hl
  · rw [fam_none (fun f hf e' => e (by rw [← hr f hf, e']))]
    exact ⟨by simp, List.Pairwise.nil⟩
theorem Fo.is {S : List St} {F : List Ft} {A : List Fa} (h : Fo S (F.map Ft.fa)) (hA : NF A) (hc : ∀ r t, tot (fun f : Fa => if f.row = r ∧ f.lo ≤ t ∧ t < f.hi then 1 else 0) A = max (sumR S r t) 0) : F.map Ft.fa = A := by
  refine NF.unique h.nf hA (fun r t => ?_)
  have h1 := h.cnt r t
  have h2 := cntF_tot A r t
  have h3 := hc r t
  omega
theorem awake_l {F : List Ft} {p1 p2 : Option Addr} {c1 c2 : Nat} {a b : Ls} (ha : a.L = [⟨p1, c1, oneR 1, 0, 5⟩]) (hb : b.L = [⟨p2, c2, oneR 1, 5, 9⟩]) (h : Fo (allS [a, b]) (F.map Ft.fa)) : F.map Ft.fa = [⟨oneR 1, 0, 9⟩] := by
  refine h.is (NF.row (r := oneR 1) (by simp) ⟨by simp [Fa.iv], by simp⟩ (by simp)) (fun r t => ?_)
  rw [sumR_all_steps]
  simp only [tot, Int.add_zero]
  rw [ha, hb]
  simp only [cN, tot, Int.add_zero]
  unfold nF
  rw [show okF ⟨p1, c1, oneR 1, 0, 5⟩ = true by simp [okF, rightB], show okF ⟨p2, c2, oneR 1, 5, 9⟩ = true by simp [okF, rightB]]
  simp only [true_and]
  by_cases hr : oneR 1 = r
  · simp only [hr, true_and]
    by_cases h1 : 0 ≤ t ∧ t < 5
    · rw [if_pos (by omega), if_pos h1, if_neg (by omega)]; rfl
    · by_cases h2 : 5 ≤ t ∧ t < 9
      · rw [if_pos (by omega), if_neg h1, if_pos h2]; rfl
      · rw [if_neg (by omega), if_neg h1, if_neg h2]; rfl
  · simp [hr]
theorem awake_m {L F : List Ft} {p : Option Addr} {c : Nat} {b : Ls} (hL : L.map Ft.fa = [⟨oneR 1, 0, 9⟩]) (hb : b.L = [⟨p, c, oneR 1, 2, 3⟩]) (h : Fo (stepsL L 1 ++ stepsL b.L (-1)) (F.map Ft.fa)) : F.map Ft.fa = [⟨oneR 1, 0, 2⟩, ⟨oneR 1, 3, 9⟩] := by
  obtain ⟨f, rfl, hf⟩ := List.map_eq_singleton_iff.1 hL
  obtain ⟨fp, fc, fr, flo, fhi⟩ := f
  unfold Ft.fa at hf
  injection hf with e1 e2 e3
  simp only at e1 e2 e3
  subst e1 e2 e3
  have hcm : ordA (⟨oneR 1, 0, 2⟩ : Fa) ⟨oneR 1, 3, 9⟩ ≤ 0 := by
    unfold ordA lex
    simp [cmpL_self, cmpI]
  refine h.is (NF.row (r := oneR 1) (by simp) ⟨by simp [Fa.iv], by simp [Fa.iv, Compat]⟩ (by simp [hcm])) (fun r t => ?_)
  rw [sumR_append, sumR_steps, sumR_steps, hb]
  simp only [cN, tot, Int.add_zero]
  unfold nF
  rw [show okF ⟨fp, fc, oneR 1, 0, 9⟩ = true by simp [okF, rightB], show okF ⟨p, c, oneR 1, 2, 3⟩ = true by simp [okF, rightB]]
  simp only [true_and]
  by_cases hr : oneR 1 = r
  · simp only [hr, true_and]
    by_cases h1 : 0 ≤ t ∧ t < 2
    · rw [if_pos (by omega), if_neg (by omega), if_pos (by omega), if_neg (by omega)]; rfl
    · by_cases h2 : 3 ≤ t ∧ t < 9
      · rw [if_neg (by omega), if_pos (by omega), if_pos (by omega), if_neg (by omega)]; rfl
      · by_cases h3 : 2 ≤ t ∧ t < 3
        · rw [if_neg (by omega), if_neg (by omega), if_pos (by omega), if_pos (by omega)]; rfl
        · rw [if_neg (by omega), if_neg (by omega), if_neg (by omega), if_neg (by omega)]; rfl
  · simp [hr]
theorem awake_rows {F : List Ft} (h : F.map Ft.fa = [⟨oneR 1, 0, 2⟩, ⟨oneR 1, 3, 9⟩]) : (rowsAt F 4).length = 1 ∧ ∃ f g, F = [f, g] ∧ g.lo = 3 := by
  obtain ⟨f, F1, rfl, e1, h1⟩ := List.map_eq_cons_iff.1 h
  obtain ⟨g, F2, rfl, e2, h2⟩ := List.map_eq_cons_iff.1 h1
  obtain rfl := List.map_eq_nil_iff.1 h2
  obtain ⟨fp, fc, fr, flo, fhi⟩ := f
  obtain ⟨gp, gc, gr, glo, ghi⟩ := g
  unfold Ft.fa at e1 e2
  injection e1 with a1 a2 a3
  injection e2 with b1 b2 b3
  simp only at a1 a2 a3 b1 b2 b3
  subst a1 a2 a3 b1 b2 b3
  exact ⟨by simp [rowsAt, okF, rightB, hasB], _, _, rfl, rfl⟩
set_option maxHeartbeats 16000000 in
theorem awake_any (w : World) : Calls Tryz.prog 9 #[] w fun e w' => e = .returned (.bool true) ∧ Fr w w' (fun _ => False) := by
  go_enter Tryz.func9, Tryz.ntmps9
  go_wp2_with fail
  refine (fact_any 1 0 5 w).mono ?_
  rintro e wa ⟨pa, ca, rfl, ra, fa⟩
  obtain ⟨wb, hwb⟩ : ∃ wb, wb = wa.alloc (.cells #[.slice pa 1 ca, .int .i64 0, .int .i64 5] 59) := ⟨_, rfl⟩
  obtain ⟨gb, hgb⟩ : ∃ gb, gb = wa.heap.size := ⟨_, rfl⟩
  have HIB := hide (show FIn wb ⟨some ⟨gb, 0, none⟩, 1, [⟨pa, ca, oneR 1, 0, 5⟩]⟩ by rw [hwb, hgb]; exact FIn.one ⟨pa, ca, oneR 1, 0, 5⟩ ra _ rfl)
  have HFB := hide (show Fr w wb (fun _ => False) by rw [hwb]; exact (fa.trans (Fr.alloc _ _ (fun _ => False))).mono (by simp))
  have HWB := hide hwb
  have HGB := hide hgb
  clear ra fa hwb hgb
  go_wp2_with fail
  rw [← HWB.out, ← HGB.out]
  refine (fact_any 1 5 9 wb).mono ?_
  rintro e wc ⟨pc, cc, rfl, rc, fc⟩
  obtain ⟨wd, hwd⟩ : ∃ wd, wd = wc.alloc (.cells #[.slice pc 1 cc, .int .i64 5, .int .i64 9] 59) := ⟨_, rfl⟩
  obtain ⟨gd, hgd⟩ : ∃ gd, gd = wc.heap.size := ⟨_, rfl⟩
  obtain ⟨D, hD⟩ : ∃ D : List Ls, D = [⟨some ⟨gb, 0, none⟩, 1, [⟨pa, ca, oneR 1, 0, 5⟩]⟩, ⟨some ⟨gd, 0, none⟩, 1, [⟨pc, cc, oneR 1, 5, 9⟩]⟩] := ⟨_, rfl⟩
  obtain ⟨we, hwe⟩ : ∃ we, we = wd.alloc (.cells #[.slice (some ⟨gb, 0, none⟩) 1 1, .slice (some ⟨gd, 0, none⟩) 1 1] 22) := ⟨_, rfl⟩
  have hge : wd.heap.size = gd + 1 := by rw [hwd, hgd]; simp
  have fd : Fr wc wd (fun _ => False) := by rw [hwd]; exact Fr.alloc _ _ _
  have fe : Fr wd we (fun _ => False) := by rw [hwe]; exact Fr.alloc _ _ _
  have HID : FIn wd ⟨some ⟨gd, 0, none⟩, 1, [⟨pc, cc, oneR 1, 5, 9⟩]⟩ := by rw [hwd, hgd]; exact FIn.one ⟨pc, cc, oneR 1, 5, 9⟩ rc _ rfl
  have HRE : Row elL we (some ⟨gd + 1, 0, none⟩) D := by rw [hwe, ← hge, hD]; exact Row.new elL wd _ _ rfl
  have HFE := hide (((HFB.out.trans fc).trans (fd.trans fe)).mono (Y := fun _ => False) (by simp))
  have HN := normal_any (cl := 2) HRE (fun d hd => by
    rw [hD] at hd
    simp only [List.mem_cons, List.not_mem_nil, or_false] at hd
    rcases hd with rfl | rfl
    · exact HIB.out.fr ((fc.trans (fd.trans fe)).mono (by simp))
    · exact HID.fr fe) (by rw [hD]; simp [allN]) (by rw [hD]; simp)
  rw [show D.length = 2 by rw [hD]; rfl] at HN
  have HNN := hide HN
  have HWD := hide hwd
  have HGD := hide hgd
  have HWE := hide hwe
  have HDD := hide hD
  clear rc fc hwd hgd hwe hge fd fe HID HRE hD HN HIB HFB
  go_wp2_with fail
  rw [← HWD.out, ← HGD.out, ← HWE.out]
  refine HNN.out.mono ?_
  rintro e wf ⟨vf, LF, rfl, hmf⟩
  obtain ⟨pf, cf, rfl, hif⟩ := hmf.fin
  have hfo := hmf.fo
  rw [HDD.out] at hfo
  have hlf := awake_l rfl rfl hfo
  have HLF := hide hlf
  have hlen : LF.length = 1 := by have := congrArg List.length hlf; simpa using this
  have HIF := hide hif
  have HFF := hide ((HFE.out.trans hmf.fr).mono (Y := fun _ => False) (by simp))
  rw [hlen]
  have HLEN := hide hlen
  clear hmf hif hfo hlf hlen HNN HWD HGD HWE HDD
  go_wp2_with fail
  refine (fact_any 1 2 3 wf).mono ?_
  rintro e wg ⟨pg, cg, rfl, rg, fg⟩
  obtain ⟨wh, hwh⟩ : ∃ wh, wh = wg.alloc (.cells #[.slice pg 1 cg, .int .i64 2, .int .i64 3] 59) := ⟨_, rfl⟩
  obtain ⟨gh, hgh⟩ : ∃ gh, gh = wg.heap.size := ⟨_, rfl⟩
  have fh : Fr wg wh (fun _ => False) := by rw [hwh]; exact Fr.alloc _ _ _
  have HIH := hide (show FIn wh ⟨some ⟨gh, 0, none⟩, 1, [⟨pg, cg, oneR 1, 2, 3⟩]⟩ by rw [hwh, hgh]; exact FIn.one ⟨pg, cg, oneR 1, 2, 3⟩ rg _ rfl)
  have HIF2 := hide (HIF.out.fr ((fg.trans fh).mono (Y := fun _ => False) (by simp)))
  have HFH := hide ((HFF.out.trans (fg.trans fh)).mono (Y := fun _ => False) (by simp))
  have HX := except_any HIF2.out HIH.out (by simp [HLEN.out])
  simp only [HLEN.out, List.length_singleton] at HX
  have HXX := hide HX
  have HWH := hide hwh
  have HGH := hide hgh
  clear rg fg fh hwh hgh HX HFF HIF
  go_wp2_with fail
  rw [← HWH.out, ← HGH.out]
  refine HXX.out.mono ?_
  rintro e wi ⟨vi, LM, rfl, hmi⟩
  obtain ⟨pi, ci, rfl, hii⟩ := hmi.fin
  have hlm := awake_m (b := ⟨some ⟨gh, 0, none⟩, 1, [⟨pg, cg, oneR 1, 2, 3⟩]⟩) HLF.out rfl hmi.fo
  obtain ⟨hrows, f0, g0, rfl, hg0⟩ := awake_rows hlm
  have HIF3 := hide (HIF2.out.fr hmi.fr)
  have HFI := hide ((HFH.out.trans hmi.fr).mono (Y := fun _ => False) (by simp))
  have HII := hide hii
  have HSL := hide (slice_any hii 4 (by simp))
  obtain ⟨f, hLF, hf⟩ := List.map_eq_singleton_iff.1 HLF.out
  subst hLF
  obtain ⟨g1, o1, rfl, _, _, _, c12⟩ := rowF_at HIF3.out.row (j := 0) (x := f) rfl
  obtain ⟨g2, o2, rfl, _, _, c21, _⟩ := rowF_at HII.out.row (j := 1) (x := g0) rfl
  rw [show f.hi = 9 from congrArg Fa.hi hf] at c12
  rw [hg0] at c21
  have HROWS := hide hrows
  clear hmi hii hlm hrows hg0 hf HXX HWH HGH
  simp only [List.length_cons, List.length_nil, Nat.zero_add] at HSL ⊢
  go_wp2_with fail
  refine HSL.mono ?_
  rintro e wj ⟨v, R, rfl, hor, hpr, _, _, _, fj⟩
  obtain ⟨aj, cj, rfl, _⟩ := hor.shape
  have hR : R.length = 1 := by have := hpr.length_eq; rw [List.length_map, HROWS.out] at this; exact this
  have HFJ := hide ((HFI.out.trans fj).mono (Y := fun _ => False) (by simp))
  rw [hR]
  clear hor hpr fj hR HSL c12 c21
  go_wp2
  go_ret
  exact ⟨rfl, HFJ.out⟩
end Go.Proofs.YtlapifncplbcnaaGreat
