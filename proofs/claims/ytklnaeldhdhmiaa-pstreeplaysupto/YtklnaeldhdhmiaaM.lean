/- Add, Top. -/
import Derived.Test.YtklnaeldhdhmiaaL
namespace Go.Proofs.Ytklnaeldhdhmiaa
open Go.RowKit Go.Sort
set_option maxRecDepth 100000
set_option linter.unusedVariables false
set_option linter.unusedSimpArgs false

set_option maxHeartbeats 8000000 in
theorem addT_any {w : World} {base gt : Nat} {L : List Pt} {X : Nat → Prop} (h : TR w base gt L X) (p : Pt) (hid : In64 p.id) (hnew : ∀ q ∈ L, q.id ≠ p.id) (hsz : L.length + 1 ≤ 1099511627776) (hb : base ≤ w.heap.size) :
    Calls Try.prog 13 #[.pointer (some ⟨gt, 0, none⟩), p.agg] w fun e w' => e = .returned (.int .i64 0) ∧ (∃ X' : Nat → Prop, TR w' base gt (p :: L) X' ∧ ∀ k, X' k → X k ∨ w.heap.size ≤ k) ∧ Fr w w' X := by
  have hlt := h.lt
  obtain ⟨gm, ra, t, S, h1, h2, h3, h4, h5, h6, h7, h8, h9, h10, h11, h12⟩ := h
  unfold Pt.agg
  have hids : Ids (p :: L) := List.pairwise_cons.2 ⟨fun q hq => (hnew q hq).symm, h6⟩
  have hgtw := (Array.getElem?_eq_some_iff.1 h1).1
  have hgmw := h2.mf.lt
  have FA := (Fr.alloc w (.cells #[.int .i64 p.x, .int .i64 p.y, .int .i64 p.id] 28) (fun _ => False)).trans (Fr.drew _ (fun _ => False))
  have hbn : BoxAt (w.alloc (.cells #[.int .i64 p.x, .int .i64 p.y, .int .i64 p.id] 28)).drew w.heap.size p := heap_alloc_new w _
  have e1 : (w.alloc (.cells #[.int .i64 p.x, .int .i64 p.y, .int .i64 p.id] 28)).drew.heap[gt]? = some (.cells #[.map (some gm), .pointer ra] 55 (0, 0)) := by rw [FA.block gt hgtw (fun h => h.elim (fun h => h) (fun h => h))]; exact h1
  have hm1 : MapN (w.alloc (.cells #[.int .i64 p.x, .int .i64 p.y, .int .i64 p.id] 28)).drew gm L.length (px L) := h2.fr FA (fun h => h.elim (fun h => h) (fun h => h))
  have ht1 : TreeAt (w.alloc (.cells #[.int .i64 p.x, .int .i64 p.y, .int .i64 p.id] 28)).drew base t (.pointer ra) S := h3.fr FA (fun _ _ h => h.elim (fun h => h) (fun h => h))
  have hs1 : (w.alloc (.cells #[.int .i64 p.x, .int .i64 p.y, .int .i64 p.id] 28)).drew.heap.size = w.heap.size + 1 := by show (w.alloc _).heap.size = _; simp
  have hpn := px_none hnew
  have F1 : Fr w (w.alloc (.cells #[.int .i64 p.x, .int .i64 p.y, .int .i64 p.id] 28)).drew (fun _ => False) := FA.mono (fun _ _ h => h.elim (fun h => h) (fun h => h))
  have HPN := hide hpn
  have HTS : Hid (t.size = L.length) := hide (by rw [← t.length_pts, h5.length_eq])
  have HOK := hide h4
  have HPM := hide h5
  have HIDS := hide hids
  have HID := hide hid
  have HX := hide h12
  have HLT := hide hlt
  have HNE := hide (And.intro h7 (And.intro h8 (And.intro h9 (And.intro h10 h11))))
  have HSZ := hide hsz
  have HB := hide hb
  have HBX := hide hbn
  have HE1 := hide e1
  have HM1 := hide hm1
  have HT1 := hide ht1
  have HF1 := hide F1
  have HS1 := hide hs1
  have HGW := hide (And.intro hgtw hgmw)
  clear hlt h1 h2 h3 h4 h5 h6 h7 h8 h9 h10 h11 h12 hids FA hbn e1 hm1 ht1 hs1 hpn F1 hid hnew hsz hb hgtw hgmw
  go_enter Try.func13, Try.ntmps13
  go_wp2_with fail
  refine wp_region_K (fun _ => true) (fun U : World => U = (w.alloc (.cells #[.int .i64 p.x, .int .i64 p.y, .int .i64 p.id] 28)).drew) (by kernel_rfl) ?_
  generalize (w.alloc (.cells #[.int .i64 p.x, .int .i64 p.y, .int .i64 p.id] 28)).drew = U0 at *
  generalize hgb : w.heap.size = gb at *
  have HGB := hide hgb
  clear hgb
  have c0 : U0.cell? ⟨gt, 0, none⟩ = some (.map (some gm)) := (cell_of_row _ _ _ _ _ _ HE1.out).trans rfl
  have c1 : U0.cell? ⟨gt, 1, none⟩ = some (.pointer ra) := (cell_of_row _ _ _ _ _ _ HE1.out).trans rfl
  obtain ⟨x0, x1, x2⟩ := HBX.out.pt
  have hlk : (Instr.lookup 52 (.map (some gm)) (.int .i64 p.id) true).run Try.prog U0 = .ok (.tuple #[.int .i64 0, .bool false]) U0 := by
    have := HM1.out.mf.look_ok (x := p.id) HID.out
    rw [HPN.out] at this
    exact this
  have hS : (fun U : World => U = U0) U0 := rfl
  refine wpAnyK_takeTo 0 (some 8) (.pointer (some ⟨gt, 0, none⟩)) [1, 2, 3, 6, 7, 8, 9, 10, 11] rfl rfl (by kernel_rfl) (by kernel_rfl) (by kernel_rfl) (by kernel_rfl) (fun _ _ _ h => h) hS (Or.inl ⟨rfl, fun w1 hw1 => by have hw1 : w1 = U0 := hw1; subst hw1; go_simp⟩) ?_
  simp only [Act.put, List.setIfInBounds_toArray, List.set_cons_zero, List.set_cons_succ]
  refine wpAnyK_takeTo 1 (some 9) (.pointer (some ⟨gt, 0, none⟩)) [2, 3, 6, 7, 8, 9, 10, 11] rfl rfl (by kernel_rfl) (by kernel_rfl) (by kernel_rfl) (by kernel_rfl) (fun _ _ _ h => h) hS (Or.inl ⟨rfl, fun w1 hw1 => by have hw1 : w1 = U0 := hw1; subst hw1; go_simp⟩) ?_
  simp only [Act.put, List.setIfInBounds_toArray, List.set_cons_zero, List.set_cons_succ]
  refine wpAnyK_takeTo 2 (some 10) (.pointer (some ⟨gt, 0, none⟩)) [3, 6, 7, 8, 9, 10, 11] rfl rfl (by kernel_rfl) (by kernel_rfl) (by kernel_rfl) (by kernel_rfl) (fun _ _ _ h => h) hS (Or.inl ⟨rfl, fun w1 hw1 => by have hw1 : w1 = U0 := hw1; subst hw1; go_simp⟩) ?_
  simp only [Act.put, List.setIfInBounds_toArray, List.set_cons_zero, List.set_cons_succ]
  refine wpAnyK_takeTo 3 (some 11) (.map (some gm)) [6, 7, 8, 9, 10, 11] rfl rfl (by kernel_rfl) (by kernel_rfl) (by kernel_rfl) (by kernel_rfl) (fun _ _ _ h => h) hS (Or.inl ⟨rfl, fun w1 hw1 => by have hw1 : w1 = U0 := hw1; subst hw1; go_simp⟩) ?_
  simp only [Act.put, List.setIfInBounds_toArray, List.set_cons_zero, List.set_cons_succ]
  refine wpAnyK_takeTo 4 (some 12) (.pointer (some ⟨gb, 2, none⟩)) [5, 6, 7, 8, 9, 10, 11] rfl rfl (by kernel_rfl) (by kernel_rfl) (by kernel_rfl) (by kernel_rfl) (fun _ _ _ h => h) hS (Or.inl ⟨rfl, fun w1 hw1 => by have hw1 : w1 = U0 := hw1; subst hw1; go_simp⟩) ?_
  simp only [Act.put, List.setIfInBounds_toArray, List.set_cons_zero, List.set_cons_succ]
  refine wpAnyK_takeTo 5 (some 13) (.int .i64 p.id) [6, 7, 8, 9, 10, 11] rfl rfl (by kernel_rfl) (by kernel_rfl) (by kernel_rfl) (by kernel_rfl) (fun _ _ _ h => h) hS (Or.inl ⟨rfl, fun w1 hw1 => by have hw1 : w1 = U0 := hw1; subst hw1; go_simp⟩) ?_
  simp only [Act.put, List.setIfInBounds_toArray, List.set_cons_zero, List.set_cons_succ]
  refine wpAnyK_takeTo 6 (some 14) (.tuple #[.int .i64 0, .bool false]) [7, 8, 9, 10, 11] rfl rfl (by kernel_rfl) (by kernel_rfl) (by kernel_rfl) (by kernel_rfl) (fun _ _ _ h => h) hS (Or.inl ⟨rfl, fun w1 hw1 => by have hw1 : w1 = U0 := hw1; subst hw1; go_simp⟩) ?_
  simp only [Act.put, List.setIfInBounds_toArray, List.set_cons_zero, List.set_cons_succ]
  refine wpAnyK_takeTo 7 (some 7) (.tuple #[.int .i64 0, .bool false]) [8, 9, 10, 11] rfl rfl (by kernel_rfl) (by kernel_rfl) (by kernel_rfl) (by kernel_rfl) (fun _ _ _ h => h) hS (Or.inl ⟨rfl, fun w1 hw1 => by have hw1 : w1 = U0 := hw1; subst hw1; go_simp⟩) ?_
  simp only [Act.put, List.setIfInBounds_toArray, List.set_cons_zero, List.set_cons_succ]
  refine wpAnyK_takeTo 8 (some 15) (.int .i64 0) [10, 11] rfl rfl (by kernel_rfl) (by kernel_rfl) (by kernel_rfl) (by kernel_rfl) (fun _ _ _ h => h) hS (Or.inl ⟨rfl, fun w1 hw1 => by have hw1 : w1 = U0 := hw1; subst hw1; go_simp⟩) ?_
  simp only [Act.put, List.setIfInBounds_toArray, List.set_cons_zero, List.set_cons_succ]
  refine wpAnyK_takeTo 9 (some 16) (.bool false) [11] rfl rfl (by kernel_rfl) (by kernel_rfl) (by kernel_rfl) (by kernel_rfl) (fun _ _ _ h => h) hS (Or.inl ⟨rfl, fun w1 hw1 => by have hw1 : w1 = U0 := hw1; subst hw1; go_simp⟩) ?_
  simp only [Act.put, List.setIfInBounds_toArray, List.set_cons_zero, List.set_cons_succ]
  clear hlk
  refine wpAnyK_one (i := 10) (by kernel_rfl) rfl rfl ?_
  go_simp
  refine wpAnyK_one (i := 11) (by kernel_rfl) rfl rfl ?_
  go_simp
  refine wpAnyK_done (by kernel_rfl) ?_ _
  clear hS
  go_wp2_with fail
  have D1 := Fr.drew U0 (fun _ => False)
  obtain ⟨U2, hup, hm2, f2⟩ := (HM1.out.fr D1 (fun h => h)).put (by have := HSZ.out; unfold maxLen; omega) HID.out HPN.out p.x
  refine wp_region_K (fun z => decide (z < 8)) (fun U : World => U = U0.drew) (by kernel_rfl) ?_
  have hS : (fun U : World => U = U0.drew) U0.drew := rfl
  have k0 : U0.drew.cell? ⟨gt, 0, none⟩ = some (.map (some gm)) := c0
  have y0 : U0.drew.cell? ⟨gb, 0, none⟩ = some (.int .i64 p.x) := x0
  have y2 : U0.drew.cell? ⟨gb, 2, none⟩ = some (.int .i64 p.id) := x2
  have hgbm : gb ≠ gm := by have := HGW.out; omega
  have hgtm : gt ≠ gm := HNE.out.1
  have F2 := (D1.trans f2).mono (Y := fun k => k = gm) (fun k _ h => by rcases h with h | h; exact h.elim; exact h)
  have HBX2 := hide (HBX.out.fr F2 (fun h => hgbm h))
  have HE2 : Hid (U2.heap[gt]? = some (.cells #[.map (some gm), .pointer ra] 55 (0, 0))) := hide (by rw [F2.block gt (Array.getElem?_eq_some_iff.1 HE1.out).1 (fun h => hgtm h)]; exact HE1.out)
  have HT2 := hide (HT1.out.fr F2 (fun k hk h => by have h : k = gm := h; subst h; exact HNE.out.2.2.1 hk))
  have HM2 : Hid (MapN U2 gm (p :: L).length (px (p :: L))) := hide (by rw [px_cons]; exact hm2)
  have HF2 := hide ((HF1.out.trans F2).mono (Y := fun k => k = gm) (fun k _ h => by rcases h with h | h; exact h.elim; exact h))
  have HS2 : Hid (gb + 1 ≤ U2.heap.size) := hide (by have := F2.size; have := HS1.out; omega)
  clear c0 c1 x0 x1 x2 D1 f2 F2 hm2 HBX HE1 HT1 HM1 HF1 HS1
  generalize U0.drew = U1 at *
  refine wpAnyK_takeTo 0 (some 18) (.pointer (some ⟨gt, 0, none⟩)) [1, 2, 3, 8] rfl rfl (by kernel_rfl) (by kernel_rfl) (by kernel_rfl) (by kernel_rfl) (fun _ _ _ h => h) hS (Or.inl ⟨rfl, fun w1 hw1 => by have hw1 : w1 = U1 := hw1; subst hw1; go_simp⟩) ?_
  simp only [Act.put, List.setIfInBounds_toArray, List.set_cons_zero, List.set_cons_succ]
  refine wpAnyK_takeTo 1 (some 19) (.pointer (some ⟨gt, 0, none⟩)) [2, 3, 8] rfl rfl (by kernel_rfl) (by kernel_rfl) (by kernel_rfl) (by kernel_rfl) (fun _ _ _ h => h) hS (Or.inl ⟨rfl, fun w1 hw1 => by have hw1 : w1 = U1 := hw1; subst hw1; go_simp⟩) ?_
  simp only [Act.put, List.setIfInBounds_toArray, List.set_cons_zero, List.set_cons_succ]
  refine wpAnyK_takeTo 2 (some 20) (.pointer (some ⟨gt, 0, none⟩)) [3, 8] rfl rfl (by kernel_rfl) (by kernel_rfl) (by kernel_rfl) (by kernel_rfl) (fun _ _ _ h => h) hS (Or.inl ⟨rfl, fun w1 hw1 => by have hw1 : w1 = U1 := hw1; subst hw1; go_simp⟩) ?_
  simp only [Act.put, List.setIfInBounds_toArray, List.set_cons_zero, List.set_cons_succ]
  refine wpAnyK_takeTo 3 (some 21) (.map (some gm)) [8] rfl rfl (by kernel_rfl) (by kernel_rfl) (by kernel_rfl) (by kernel_rfl) (fun _ _ _ h => h) hS (Or.inl ⟨rfl, fun w1 hw1 => by have hw1 : w1 = U1 := hw1; subst hw1; go_simp⟩) ?_
  simp only [Act.put, List.setIfInBounds_toArray, List.set_cons_zero, List.set_cons_succ]
  refine wpAnyK_takeTo 4 (some 22) (.pointer (some ⟨gb, 2, none⟩)) [5, 8] rfl rfl (by kernel_rfl) (by kernel_rfl) (by kernel_rfl) (by kernel_rfl) (fun _ _ _ h => h) hS (Or.inl ⟨rfl, fun w1 hw1 => by have hw1 : w1 = U1 := hw1; subst hw1; go_simp⟩) ?_
  simp only [Act.put, List.setIfInBounds_toArray, List.set_cons_zero, List.set_cons_succ]
  refine wpAnyK_takeTo 5 (some 23) (.int .i64 p.id) [8] rfl rfl (by kernel_rfl) (by kernel_rfl) (by kernel_rfl) (by kernel_rfl) (fun _ _ _ h => h) hS (Or.inl ⟨rfl, fun w1 hw1 => by have hw1 : w1 = U1 := hw1; subst hw1; go_simp⟩) ?_
  simp only [Act.put, List.setIfInBounds_toArray, List.set_cons_zero, List.set_cons_succ]
  refine wpAnyK_takeTo 6 (some 24) (.pointer (some ⟨gb, 0, none⟩)) [7, 8] rfl rfl (by kernel_rfl) (by kernel_rfl) (by kernel_rfl) (by kernel_rfl) (fun _ _ _ h => h) hS (Or.inl ⟨rfl, fun w1 hw1 => by have hw1 : w1 = U1 := hw1; subst hw1; go_simp⟩) ?_
  simp only [Act.put, List.setIfInBounds_toArray, List.set_cons_zero, List.set_cons_succ]
  refine wpAnyK_takeTo 7 (some 25) (.int .i64 p.x) [8] rfl rfl (by kernel_rfl) (by kernel_rfl) (by kernel_rfl) (by kernel_rfl) (fun _ _ _ h => h) hS (Or.inl ⟨rfl, fun w1 hw1 => by have hw1 : w1 = U1 := hw1; subst hw1; go_simp⟩) ?_
  simp only [Act.put, List.setIfInBounds_toArray, List.set_cons_zero, List.set_cons_succ]
  refine wpAnyK_one (i := 8) (by kernel_rfl) rfl rfl ?_
  go_simp
  refine wpAnyK_done (by kernel_rfl) ?_ _
  clear hS hup k0 y0 y2
  go_wp2_with fail
  refine wp_region_K (fun z => decide (z < 7)) (fun U : World => PtAt U gb 0 p ∧ U.cell? ⟨gt, 1, none⟩ = some (.pointer ra)) (by kernel_rfl) ?_
  have D2 := Fr.drew U2 (fun _ => False)
  have HBX3 := hide (HBX2.out.fr D2 (fun h => h))
  have HE3 : Hid (U2.drew.heap[gt]? = some (.cells #[.map (some gm), .pointer ra] 55 (0, 0))) := hide HE2.out
  have HT3 := hide (HT2.out.fr D2 (fun _ _ h => h))
  have HM3 := hide (HM2.out.fr D2 (fun h => h))
  have HF3 := hide ((HF2.out.trans D2).mono (Y := fun k => k = gm) (fun k _ h => by rcases h with h | h; exact h; exact h.elim))
  have HS3 : Hid (gb + 1 ≤ U2.drew.heap.size) := hide HS2.out
  clear D2 HBX2 HE2 HT2 HM2 HF2 HS2
  generalize U2.drew = U3 at *
  have hS : (fun U : World => PtAt U gb 0 p ∧ U.cell? ⟨gt, 1, none⟩ = some (.pointer ra)) U3 := ⟨HBX3.out.pt, (cell_of_row _ _ _ _ _ _ HE3.out).trans rfl⟩
  refine wpAnyK_takeTo 0 (some 26) (.pointer (some ⟨gt, 0, none⟩)) [7, 8, 9] rfl rfl (by kernel_rfl) (by kernel_rfl) (by kernel_rfl) (by kernel_rfl) (fun _ _ _ h => h) hS (Or.inl ⟨rfl, fun w1 hw1 => by obtain ⟨⟨q1, q2, q3⟩, q4⟩ := hw1; go_simp⟩) ?_
  simp only [Act.put, List.setIfInBounds_toArray, List.set_cons_zero, List.set_cons_succ]
  refine wpAnyK_takeTo 1 (some 27) (.pointer (some ⟨gt, 0, none⟩)) [2, 3, 4, 6, 7, 8, 9] rfl rfl (by kernel_rfl) (by kernel_rfl) (by kernel_rfl) (by kernel_rfl) (fun _ _ _ h => h) hS (Or.inl ⟨rfl, fun w1 hw1 => by obtain ⟨⟨q1, q2, q3⟩, q4⟩ := hw1; go_simp⟩) ?_
  simp only [Act.put, List.setIfInBounds_toArray, List.set_cons_zero, List.set_cons_succ]
  refine wpAnyK_takeTo 2 (some 28) (.pointer (some ⟨gt, 0, none⟩)) [3, 4, 6, 7, 8, 9] rfl rfl (by kernel_rfl) (by kernel_rfl) (by kernel_rfl) (by kernel_rfl) (fun _ _ _ h => h) hS (Or.inl ⟨rfl, fun w1 hw1 => by obtain ⟨⟨q1, q2, q3⟩, q4⟩ := hw1; go_simp⟩) ?_
  simp only [Act.put, List.setIfInBounds_toArray, List.set_cons_zero, List.set_cons_succ]
  refine wpAnyK_takeTo 3 (some 29) (.pointer (some ⟨gt, 1, none⟩)) [4, 6, 7, 8, 9] rfl rfl (by kernel_rfl) (by kernel_rfl) (by kernel_rfl) (by kernel_rfl) (fun _ _ _ h => h) hS (Or.inl ⟨rfl, fun w1 hw1 => by obtain ⟨⟨q1, q2, q3⟩, q4⟩ := hw1; go_simp⟩) ?_
  simp only [Act.put, List.setIfInBounds_toArray, List.set_cons_zero, List.set_cons_succ]
  refine wpAnyK_takeTo 4 (some 30) (.pointer ra) [6, 7, 8, 9] rfl rfl (by kernel_rfl) (by kernel_rfl) (by kernel_rfl) (by kernel_rfl) (fun _ _ _ h => h) hS (Or.inl ⟨rfl, fun w1 hw1 => by obtain ⟨⟨q1, q2, q3⟩, q4⟩ := hw1; go_simp⟩) ?_
  simp only [Act.put, List.setIfInBounds_toArray, List.set_cons_zero, List.set_cons_succ]
  refine wpAnyK_takeTo 5 (some 31) (.agg #[.int .i64 p.x, .int .i64 p.y, .int .i64 p.id]) [6, 7, 8, 9] rfl rfl (by kernel_rfl) (by kernel_rfl) (by kernel_rfl) (by kernel_rfl) (fun _ _ _ h => h) hS (Or.inl ⟨rfl, fun w1 hw1 => by obtain ⟨⟨q1, q2, q3⟩, q4⟩ := hw1; go_simp⟩) ?_
  simp only [Act.put, List.setIfInBounds_toArray, List.set_cons_zero, List.set_cons_succ]
  refine wpAnyK_one (i := 6) (by kernel_rfl) rfl rfl ?_
  have hadd := add_any t U3 base _ S HT3.out HOK.out p (HIDS.out.perm (HPM.out.symm.cons p)) (by rw [HTS.out]; exact HSZ.out) (by have := HB.out; have := HS3.out; omega)
  unfold Pt.agg at hadd
  refine wp_call_to (some 32) rfl 23 #[.pointer ra, .agg #[.int .i64 p.x, .int .i64 p.y, .int .i64 p.id]] (by go_simp) hadd ?_
  rintro e U4 ⟨t', v', S', rfl, ht', hok', hp', hS', hf'⟩
  obtain ⟨na, rfl⟩ := ht'.ptr
  have hbS : ¬ S gb := fun h => by have := HLT.out gb ((HX.out gb).2 (.inr (.inr h))); omega
  have hb4 := HBX3.out.fr hf' hbS
  have he4 : U4.heap[gt]? = some (.cells #[.map (some gm), .pointer ra] 55 (0, 0)) := by rw [hf'.block gt (Array.getElem?_eq_some_iff.1 HE3.out).1 HNE.out.2.1]; exact HE3.out
  have hS4 : (fun U : World => PtAt U gb 0 p ∧ U.cell? ⟨gt, 1, none⟩ = some (.pointer ra)) U4 := ⟨hb4.pt, (cell_of_row _ _ _ _ _ _ he4).trans rfl⟩
  refine ⟨_, rfl, fun _ => hS4, ?_⟩
  simp only [Act.put, List.setIfInBounds_toArray, List.set_cons_zero, List.set_cons_succ]
  have c1 : U4.cell? ⟨gt, 1, none⟩ = some (.pointer ra) := hS4.2
  have z1 : U4.frozen? ⟨gt, 1, none⟩ = false := by simp [World.frozen?, he4]
  obtain ⟨U5, hU5⟩ : ∃ U5, U5 = U4.setCell ⟨gt, 1, none⟩ (.pointer na) := ⟨_, rfl⟩
  have F5 : Fr U4 U5 (fun k => k = gt) := by rw [hU5]; exact Fr.setCell U4 ⟨gt, 1, none⟩ _
  have he5 : U5.heap[gt]? = some (.cells #[.map (some gm), .pointer na] 55 (0, 0)) := by
    rw [hU5, heap_setCell_here U4 gt 1 (.pointer na) _ 55 (0, 0) he4]
    rfl
  have hold : ∀ k, S' k → S k ∨ gb + 1 ≤ k := fun k hk => by
    rcases hS' k hk with h | h
    · exact .inl h
    · exact .inr (by have := HS3.out; omega)
  have HRES : Hid ((∃ X' : Nat → Prop, TR U5 base gt (p :: L) X' ∧ ∀ k, X' k → X k ∨ gb ≤ k) ∧ Fr w U5 X) := hide (by
    obtain ⟨n1, n2, n3, n4, n5⟩ := HNE.out
    have hgw := HGW.out
    have hS1t : ¬ S' gt := fun h => by rcases hold gt h with h | h; exact n2 h; omega
    have hS1m : ¬ S' gm := fun h => by rcases hold gm h with h | h; exact n3 h; omega
    refine ⟨⟨fun k => k = gt ∨ k = gm ∨ S' k, ⟨gm, na, t', S', he5, (HM3.out.fr hf' n3).fr F5 (fun h => n1 h.symm), ht'.fr F5 (fun k hk h => by have h : k = gt := h; subst h; exact hS1t hk), hok', hp'.trans (HPM.out.cons p), HIDS.out, n1, hS1t, hS1m, n4, n5, fun k => Iff.rfl⟩, fun k hk => ?_⟩, ?_⟩
    · rcases hk with h | h | h
      · exact .inl ((HX.out k).2 (.inl h))
      · exact .inl ((HX.out k).2 (.inr (.inl h)))
      · rcases hold k h with h | h
        · exact .inl ((HX.out k).2 (.inr (.inr h)))
        · exact .inr (by omega)
    · exact ((HF3.out.trans hf').trans F5).mono (fun k _ h => by
        rcases h with (h | h) | h
        · exact (HX.out k).2 (.inr (.inl h))
        · exact (HX.out k).2 (.inr (.inr h))
        · exact (HX.out k).2 (.inl h)))
  have HU5 := hide hU5
  clear hU5 F5 he5 hold ht' hok' hp' hS' hf' hb4 he4 hS4 hS hadd hbS
  refine wpAnyK_one (i := 7) (by kernel_rfl) rfl rfl ?_
  go_simp
  refine wpAnyK_one (i := 8) (by kernel_rfl) rfl rfl ?_
  go_simp
  refine wpAnyK_one (i := 9) (by kernel_rfl) rfl rfl ?_
  go_simp
  rw [← HU5.out]
  refine wpAnyK_done (by kernel_rfl) ?_ _
  clear c1 z1 HU5
  go_wp2
  go_ret
  have hres := HRES.out
  rw [← HGB.out] at hres
  exact ⟨rfl, hres⟩
theorem PtAt.range {w : World} {g o : Nat} {p : Pt} (h : PtAt w g o p) : w.rangeAt g o [.int .i64 p.x, .int .i64 p.y, .int .i64 p.id] := fun j v hv => by
  match j, hv with
  | 0, hv => cases hv; exact h.1
  | 1, hv => cases hv; exact h.2.1
  | 2, hv => cases hv; exact h.2.2
theorem results_pt {fn : Func} {p q : Tmp} (h : fn.results = #[.cell p 28, .tmp q]) (tmps : Array Value) (w : World) (g : Nat) {x : Pt} (ht : PtAt w g 0 x) (hp : tmps.getD p undef = .pointer (some ⟨g, 0, none⟩)) :
    (results fn tmps).run Try.prog w = .ok (.tuple #[x.agg, tmps.getD q undef]) w := by
  have hp' : tmps[p]?.getD undef = .pointer (some ⟨g, 0, none⟩) := by simpa using hp
  obtain ⟨i, hi, hz, hs, hb⟩ := full28
  simp [results, h, hp', asAddr, Pt.agg, run_loadVar_mid (P := Try.prog) w g 0 28 [.int .i64 x.x, .int .i64 x.y, .int .i64 x.id] _ ht.range Try.underlying28 rfl (by kernel_rfl)]
set_option maxHeartbeats 2000000 in
theorem top_any {w : World} {base gt : Nat} {L : List Pt} {X : Nat → Prop} (h : TR w base gt L X) (hne : L ≠ []) : Calls Try.prog 14 #[.pointer (some ⟨gt, 0, none⟩)] w fun e w' => ∃ p : Pt, e = .returned (.tuple #[p.agg, .int .i64 0]) ∧ p ∈ L ∧ (∀ q ∈ L, ¬ aboveP q p) ∧ Fr w w' (fun _ => False) := by
  obtain ⟨gm, ra, t, S, h1, h2, h3, h4, h5, h6, _⟩ := h
  cases t with
  | nil =>
    have : L = [] := List.perm_nil.1 h5.symm
    exact absurd this hne
  | node p f l r =>
    obtain ⟨g, lv, rv, Sl, Sr, hra, _, hN, _⟩ := h3
    cases hra
    have HTOP : Hid (p ∈ L ∧ ∀ q ∈ L, ¬ aboveP q p) := hide ⟨h5.mem_iff.1 (by simp [PT.pts]), fun q hq => by
      rcases List.mem_cons.1 (h5.mem_iff.2 hq) with h | h
      · subst h; exact aboveP_irrefl _
      · exact h4.1 q h⟩
    have hgt := (Array.getElem?_eq_some_iff.1 h1).1
    have hg := (Array.getElem?_eq_some_iff.1 hN).1
    obtain ⟨Z, hZ⟩ : ∃ Z : Obj, Z = .cells #[.int .i64 0, .int .i64 0, .int .i64 0] 28 := ⟨_, rfl⟩
    have FA := Fr.alloc w Z (fun _ => False)
    have e1 : (w.alloc Z).cell? ⟨gt, 1, none⟩ = some (.pointer (some ⟨g, 0, none⟩)) := FA.cell' (fun h => h) ((cell_of_row _ _ _ _ _ _ h1).trans rfl)
    obtain ⟨c0, c1, c2, c3, c4, c5, c6, c7, c8⟩ := hN.c.fr FA (fun h => h)
    have hz := heap_alloc_new w Z
    rw [hZ] at hz
    have b0 : BoxAt (w.alloc Z) w.heap.size ⟨0, 0, 0⟩ := by unfold BoxAt; rw [hZ]; exact hz
    obtain ⟨x0, x1, x2⟩ := b0.pt
    have z0 := b0.frozen 0
    have z1 := b0.frozen 1
    have z2 := b0.frozen 2
    clear h1 h2 h4 h5 h6 hN FA hz b0 hgt hg
    go_enter Try.func14, Try.ntmps14
    rw [hZ] at *
    clear hZ
    go_wp2_with fail
    exact bodyPost_ret (results_pt Try.results14 _ _ w.heap.size (box_pt w p) rfl) rfl ⟨p, rfl, HTOP.out.1, HTOP.out.2, Fr.alloc w _ (fun _ => False)⟩
end Go.Proofs.Ytklnaeldhdhmiaa
