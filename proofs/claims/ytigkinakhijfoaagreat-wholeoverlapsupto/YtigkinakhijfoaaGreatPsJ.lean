/- balanced. -/
import Derived.Test.YtigkinakhijfoaaGreatPsI
namespace Go.Proofs.YtigkinakhijfoaaGreat.Ps
open Go.RowKit Go.Sort
set_option maxRecDepth 100000
set_option linter.unusedVariables false
set_option linter.unusedSimpArgs false

/-- No two have the same number. -/
def Ids (L : List Pt) : Prop := L.Pairwise (fun x y => x.id ≠ y.id)
theorem Ids.perm {L M : List Pt} (h : Ids L) (hp : L.Perm M) : Ids M := List.Pairwise.perm (R := fun x y : Pt => x.id ≠ y.id) h hp (fun h => h.symm)
theorem ownB_eq {g n c k : Nat} (h : (Value.slice (some ⟨g, 0, none⟩) n c).ownBlock = some k) : k = g := by cases h; rfl
theorem strict {T : List Pt} (hs : T.Pairwise (fun x y => ¬ aheadP y x)) (hi : Ids T) : T.Pairwise aheadP := by
  have h : T.Pairwise (fun x y => ¬ aheadP y x ∧ x.id ≠ y.id) := hs.and hi
  exact h.imp (fun {x y} h => by obtain ⟨h1, h2⟩ := h; unfold aheadP at *; omega)
theorem own_seg {w : World} {g n c : Nat} {L : List Pt} (h : OwnPt w (.slice (some ⟨g, 0, none⟩) n c) L) : SegAt w g 0 L ∧ n ≤ c ∧ c ≤ 9223372036854775807 ∧ n = L.length := by
  have hn : n = L.length := by obtain ⟨a, c', h1⟩ := shape_n h; cases h1; rfl
  obtain ⟨hl, ⟨h1, _⟩ | ⟨g', cap, cur, h1, hb, hc, hle, hmx, hcs, ht⟩⟩ := h
  · cases h1
  · cases h1
    refine ⟨seg_of_cells (fun j u hu => ?_) (fun k => by simp [World.frozen?, hc]) (Array.getElem?_eq_some_iff.1 hc).1, hle, by unfold maxLen at hmx; omega, hn⟩
    rw [← ht] at hu
    have hj : j < L.length * 3 := by
      have := (List.getElem?_eq_some_iff.1 hu).1
      rw [List.length_take] at this; omega
    rw [List.getElem?_take_of_lt hj] at hu
    rw [cell_of_row _ _ _ _ _ _ hc, Nat.zero_add, ← Array.getElem?_toList]
    exact hu
theorem make35 (V : World) (n : Nat) (hn : n ≤ 1099511627776) : (Instr.makeSlice 40 (.int .i64 0) (.int .i64 (n : Int))).run Tryz.prog V = .ok (.slice (some ⟨V.heap.size, 0, none⟩) 0 n) (V.alloc (.cells (madeCells (Value.agg #[.int .i64 0, .int .i64 0, .int .i64 0]).cells (n * 3)) 35)) := by
  obtain ⟨i, hi, hz, hs, hb⟩ := full28
  have := run_make (P := Tryz.prog) V 40 35 i _ Tryz.underlying40 hi hz .i64 .i64 0 n (Int.le_refl _) (by omega) (by rw [hb]; omega) (by omega)
  rw [hs] at this
  simpa using this
theorem own35 (V : World) (n : Nat) (hn : n ≤ 1099511627776) : OwnPt (V.alloc (.cells (madeCells (Value.agg #[.int .i64 0, .int .i64 0, .int .i64 0]).cells (n * 3)) 35)) (.slice (some ⟨V.heap.size, 0, none⟩) 0 n) [] :=
  World.ownsRow_made V _ n (Nat.zero_le _) (by unfold maxLen; omega) (by rw [size_madeCells])
def BalPost (w : World) (base : Nat) (L : List Pt) (S : Nat → Prop) (e : Ending) (w' : World) : Prop :=
  ∃ (t' : PT) (v' : Value) (S' : Nat → Prop), e = .returned v' ∧ TreeAt w' base t' v' S' ∧ t'.Ok ∧ t'.pts.Perm L ∧ (∀ k, S' k → S k ∨ w.heap.size ≤ k) ∧ Fr w w' (fun _ => False)
set_option maxHeartbeats 8000000 in
theorem balanced_any {w : World} {base g : Nat} {p f : Pt} {l r : PT} {S : Nat → Prop} (h : TreeAt w base (.node p f l r) (.pointer (some ⟨g, 0, none⟩)) S) (hok : (PT.node p f l r).Ok) (hid : Ids (PT.node p f l r).pts) (hsz : (PT.node p f l r).size ≤ 1099511627776) (hb : base ≤ w.heap.size) :
    Calls Tryz.prog 36 #[.pointer (some ⟨g, 0, none⟩)] w fun e w' => BalPost w base (PT.node p f l r).pts S e w' := by
  have h' := h
  obtain ⟨g', cl, cr, Sl, Sr, hg', hg, hN, hl, hr, d1, d2, d3, hS0⟩ := h'
  cases hg'
  obtain ⟨la, rfl⟩ := hl.ptr
  obtain ⟨ra, rfl⟩ := hr.ptr
  have hsz2 : l.size + r.size + 1 ≤ 1099511627776 := hsz
  have HT := hide h
  have HOK := hide hok
  have HID := hide hid
  have HSZ := hide hsz
  have HB := hide hb
  have F0 := Fr.drew w (fun _ => False)
  have HTD := hide (h.fr F0 (fun _ _ h => h))
  have HWL := hide (weight_any (hl.fr F0 (fun _ _ h => h)))
  have HWR := hide (weight_any (hr.fr F0 (fun _ _ h => h)))
  have HC := hide (hN.c.fr F0 (fun h => h))
  have HF0 := hide F0
  have HNS : Hid ((PT.node p f l r).size = l.size + r.size + 1) := hide rfl
  generalize hn : l.size + r.size + 1 = n at *
  generalize hls : l.size = ls at *
  generalize hrs : r.size = rs at *
  have hn0 : 0 < n := by omega
  have hb1 : ls ≤ 1099511627776 := by omega
  have hb2 : rs ≤ 1099511627776 := by omega
  clear h hok hid hsz hb F0 hN hl hr d1 d2 d3 hS0 hn hls hrs
  go_enter Tryz.func36, Tryz.ntmps36
  go_wp2_with fail
  refine wp_region_K (fun z => decide (z < 10)) (fun U : World => NodeC U g p f (.pointer la) (.pointer ra) n) (by kernel_rfl) ?_
  have hS : (fun U : World => NodeC U g p f (.pointer la) (.pointer ra) n) w.drew := HC.out
  generalize w.drew = U at *
  refine wpAnyK_takeTo 0 (some 6) (.pointer (some ⟨g, 0, none⟩)) [1, 2, 3, 4, 9, 10, 11] rfl rfl (by kernel_rfl) (by kernel_rfl) (by kernel_rfl) (by kernel_rfl) (fun _ _ _ h => h) hS (Or.inl ⟨rfl, fun w1 hw1 => by obtain ⟨c0, c1, c2, c3, c4, c5, c6, c7, c8⟩ := hw1; go_simp⟩) ?_
  simp only [Act.put, List.setIfInBounds_toArray, List.set_cons_zero, List.set_cons_succ]
  refine wpAnyK_takeTo 1 (some 7) (.pointer (some ⟨g, 0, none⟩)) [2, 3, 4, 9, 10, 11] rfl rfl (by kernel_rfl) (by kernel_rfl) (by kernel_rfl) (by kernel_rfl) (fun _ _ _ h => h) hS (Or.inl ⟨rfl, fun w1 hw1 => by obtain ⟨c0, c1, c2, c3, c4, c5, c6, c7, c8⟩ := hw1; go_simp⟩) ?_
  simp only [Act.put, List.setIfInBounds_toArray, List.set_cons_zero, List.set_cons_succ]
  refine wpAnyK_takeTo 2 (some 8) (.pointer (some ⟨g, 6, none⟩)) [3, 4, 9, 10, 11] rfl rfl (by kernel_rfl) (by kernel_rfl) (by kernel_rfl) (by kernel_rfl) (fun _ _ _ h => h) hS (Or.inl ⟨rfl, fun w1 hw1 => by obtain ⟨c0, c1, c2, c3, c4, c5, c6, c7, c8⟩ := hw1; go_simp⟩) ?_
  simp only [Act.put, List.setIfInBounds_toArray, List.set_cons_zero, List.set_cons_succ]
  refine wpAnyK_takeTo 3 (some 9) (.pointer la) [4, 9, 10, 11] rfl rfl (by kernel_rfl) (by kernel_rfl) (by kernel_rfl) (by kernel_rfl) (fun _ _ _ h => h) hS (Or.inl ⟨rfl, fun w1 hw1 => by obtain ⟨c0, c1, c2, c3, c4, c5, c6, c7, c8⟩ := hw1; go_simp⟩) ?_
  simp only [Act.put, List.setIfInBounds_toArray, List.set_cons_zero, List.set_cons_succ]
  refine wpAnyK_takeTo 5 (some 11) (.pointer (some ⟨g, 0, none⟩)) [6, 7, 8, 9, 10, 11] rfl rfl (by kernel_rfl) (by kernel_rfl) (by kernel_rfl) (by kernel_rfl) (fun _ _ _ h => h) hS (Or.inl ⟨rfl, fun w1 hw1 => by obtain ⟨c0, c1, c2, c3, c4, c5, c6, c7, c8⟩ := hw1; go_simp⟩) ?_
  simp only [Act.put, List.setIfInBounds_toArray, List.set_cons_zero, List.set_cons_succ]
  refine wpAnyK_takeTo 6 (some 12) (.pointer (some ⟨g, 0, none⟩)) [7, 8, 9, 10, 11] rfl rfl (by kernel_rfl) (by kernel_rfl) (by kernel_rfl) (by kernel_rfl) (fun _ _ _ h => h) hS (Or.inl ⟨rfl, fun w1 hw1 => by obtain ⟨c0, c1, c2, c3, c4, c5, c6, c7, c8⟩ := hw1; go_simp⟩) ?_
  simp only [Act.put, List.setIfInBounds_toArray, List.set_cons_zero, List.set_cons_succ]
  refine wpAnyK_takeTo 7 (some 13) (.pointer (some ⟨g, 7, none⟩)) [8, 9, 10, 11] rfl rfl (by kernel_rfl) (by kernel_rfl) (by kernel_rfl) (by kernel_rfl) (fun _ _ _ h => h) hS (Or.inl ⟨rfl, fun w1 hw1 => by obtain ⟨c0, c1, c2, c3, c4, c5, c6, c7, c8⟩ := hw1; go_simp⟩) ?_
  simp only [Act.put, List.setIfInBounds_toArray, List.set_cons_zero, List.set_cons_succ]
  refine wpAnyK_takeTo 8 (some 14) (.pointer ra) [9, 10, 11] rfl rfl (by kernel_rfl) (by kernel_rfl) (by kernel_rfl) (by kernel_rfl) (fun _ _ _ h => h) hS (Or.inl ⟨rfl, fun w1 hw1 => by obtain ⟨c0, c1, c2, c3, c4, c5, c6, c7, c8⟩ := hw1; go_simp⟩) ?_
  simp only [Act.put, List.setIfInBounds_toArray, List.set_cons_zero, List.set_cons_succ]
  refine wpAnyK_one (i := 4) (by kernel_rfl) rfl rfl ?_
  refine wp_call_to (some 10) rfl 60 #[.pointer la] (by go_simp) HWL.out ?_
  rintro e U1 ⟨rfl, rfl⟩
  refine ⟨_, rfl, fun _ => hS, ?_⟩
  simp only [Act.put, List.setIfInBounds_toArray, List.set_cons_zero, List.set_cons_succ]
  refine wpAnyK_one (i := 9) (by kernel_rfl) rfl rfl ?_
  refine wp_call_to (some 15) rfl 60 #[.pointer ra] (by go_simp) HWR.out ?_
  rintro e U2 ⟨rfl, rfl⟩
  refine ⟨_, rfl, fun _ => hS, ?_⟩
  simp only [Act.put, List.setIfInBounds_toArray, List.set_cons_zero, List.set_cons_succ]
  refine wpAnyK_one (i := 10) (by kernel_rfl) rfl rfl ?_
  go_simp
  refine wpAnyK_one (i := 11) (by kernel_rfl) rfl rfl ?_
  go_simp
  refine wpAnyK_done (by kernel_rfl) ?_ _
  obtain ⟨c0, c1, c2, c3, c4, c5, c6, c7, c8⟩ := hS
  by_cases hbal : max (ls : Int) (rs : Int) ≤ 2 * min (ls : Int) (rs : Int) + 4
  · have hbalb : decide (max (ls : Int) (rs : Int) ≤ 2 * min (ls : Int) (rs : Int) + 4) = true := by simp only [hbal, decide_true]
    go_wp2
    go_ret
    exact ⟨_, _, _, rfl, HTD.out, HOK.out, List.Perm.refl _, fun k hk => .inl hk, HF0.out⟩
  · have hbalb : decide (max (ls : Int) (rs : Int) ≤ 2 * min (ls : Int) (rs : Int) + 4) = false := by simp only [hbal, decide_false]
    have hmk := fun V : World => make35 V n hsz2
    have HOW := hide (own35 U2 n hsz2)
    obtain ⟨MC, hMC⟩ : ∃ MC : Obj, MC = .cells (madeCells (Value.agg #[.int .i64 0, .int .i64 0, .int .i64 0]).cells (n * 3)) 35 := ⟨_, rfl⟩
    rw [← hMC] at HOW
    simp only [← hMC] at hmk
    clear hMC
    have FA := Fr.alloc U2 MC (fun _ => False)
    have HFA := hide ((HF0.out.trans FA).mono (Y := fun _ => False) (fun _ _ h => h.elim (fun h => h) (fun h => h)))
    have HTA := hide (HTD.out.fr FA (fun _ _ h => h))
    have HUS : Hid (U2.heap.size < (U2.alloc MC).heap.size ∧ w.heap.size ≤ U2.heap.size ∧ ∀ k, S k → k < U2.heap.size) := hide ⟨by simp, HF0.out.size, fun k hk => (HTD.out.lt k hk).2⟩
    clear FA
    go_wp2_with fail
    clear hmk c0 c1 c2 c3 c4 c5 c6 c7 c8
    generalize U2.alloc MC = V at *
    generalize U2.heap.size = gm at *
    refine (points_any _ _ _ _ _ HTA.out _ [] HOW.out (fun k hk h => by have := ownB_eq hk; have := HUS.out.2.2 k h; omega) (by have := HSZ.out; simp only [List.length_nil]; omega)).mono ?_
    rintro e V1 ⟨lv1, rfl, o1, f1, s1⟩
    have HO1 := hide o1
    have HS1 : Hid (∀ k, lv1.ownBlock = some k → w.heap.size ≤ k) := hide (fun k hk => by
      rcases s1 with h | ⟨q, h, h2⟩
      · rw [h] at hk; have := ownB_eq hk; have := HUS.out; omega
      · rw [h] at hk; cases hk; have := HUS.out; omega)
    have HF1 : Hid (Fr w V1 (fun _ => False)) := hide ((HFA.out.trans f1).mono (fun k hk h => by rcases h with h | h; exact h; (have := ownB_eq h; have := HUS.out; omega)))
    rw [List.nil_append] at HO1
    have hl1 : (PT.node p f l r).pts.length ≤ 1099511627776 := by rw [PT.length_pts]; exact HSZ.out
    have HSO := hide (sortP_any lv1 _ V1 HO1.out (by omega))
    have hne : 0 < (PT.node p f l r).pts.length := by rw [PT.length_pts, HNS.out]; omega
    have HNE := hide hne
    have HL1 := hide hl1
    clear o1 f1 s1 hne hl1 HOW HTA HFA
    go_wp2_with fail
    refine HSO.out.mono ?_
    rintro e V2 ⟨rfl, T, hpm, hst, o2, f2⟩
    obtain ⟨a2, c2, rfl⟩ := shape_n o2
    have hTl : T.length = (PT.node p f l r).pts.length := hpm.length_eq
    obtain ⟨x0, hx0⟩ : ∃ x0, (encPs T)[0]? = some x0 := ⟨_, List.getElem?_eq_getElem (by rw [length_encPs, hTl]; have := HNE.out; omega)⟩
    obtain ⟨g2, ha2, _⟩ := row_cell o2 hx0
    subst ha2
    obtain ⟨q1, q2, q3, _⟩ := own_seg o2
    have HG2 : Hid (w.heap.size ≤ g2) := hide (HS1.out g2 rfl)
    have HF2 : Hid (Fr w V2 (fun _ => False)) := hide ((HF1.out.trans f2).mono (fun k hk h => by rcases h with h | h; exact h; (have := ownB_eq h; have := HG2.out; omega)))
    have HBU := hide (build_any g2 base T.length V2 0 c2 T q1 rfl q2 q3 (strict hst (HID.out.perm hpm.symm)) (Nat.le_trans HB.out HF2.out.size))
    have HPM := hide hpm
    clear hpm hst o2 f2 hTl hx0 q1 q2 q3 HSO HF1 HO1 HS1
    go_wp2_with fail
    refine HBU.out.mono ?_
    rintro e V3 ⟨t', v', S', rfl, ht, hSn, hok', hp', hfr⟩
    have HRES : Hid (BalPost w base (PT.node p f l r).pts S (.returned v') V3) := hide ⟨t', v', S', rfl, ht, hok', hp'.trans HPM.out, fun k hk => .inr (Nat.le_trans HF2.out.size (hSn k hk)), (HF2.out.trans hfr.f).mono (fun k hk h => by rcases h with h | h; exact h; (have h : k = g2 := h; have := HG2.out; omega))⟩
    clear ht hSn hok' hp' hfr HBU
    go_wp2
    go_ret
    exact HRES.out
end Go.Proofs.YtigkinakhijfoaaGreat.Ps
