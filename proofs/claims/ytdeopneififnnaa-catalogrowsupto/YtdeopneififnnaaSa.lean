/- plain; Same of tables that are the same. -/
import Derived.Test.YtdeopneififnnaaN
namespace Go.Proofs.Ytdeopneififnnaa
open Go.RowKit
set_option maxRecDepth 100000
set_option linter.unusedVariables false
set_option linter.unusedSimpArgs false

def BoxD (w : World) (g : Nat) (t : Tb) : Prop := w.heap[g]? = some (.cells #[.int .i64 t.id, .string t.name, .slice t.ca t.cn t.cc, .slice t.ka t.kn t.kc, .bool t.ix] 43 (0, 0))
theorem BoxD.fr {w w' : World} {X : Nat → Prop} {g : Nat} {t : Tb} (h : BoxD w g t) (hf : Fr w w' X) (hx : ¬ X g) : BoxD w' g t := by
  unfold BoxD at *
  rw [hf.block g (Array.getElem?_eq_some_iff.1 h).1 hx]
  exact h
theorem BoxD.cells {w : World} {g : Nat} {t : Tb} (h : BoxD w g t) : w.cell? ⟨g, 0, none⟩ = some (.int .i64 t.id) ∧ w.cell? ⟨g, 1, none⟩ = some (.string t.name) ∧ w.cell? ⟨g, 2, none⟩ = some (.slice t.ca t.cn t.cc) ∧ w.cell? ⟨g, 3, none⟩ = some (.slice t.ka t.kn t.kc) ∧ w.cell? ⟨g, 4, none⟩ = some (.bool t.ix) :=
  ⟨(cell_of_row _ _ _ _ _ _ h).trans rfl, (cell_of_row _ _ _ _ _ _ h).trans rfl, (cell_of_row _ _ _ _ _ _ h).trans rfl, (cell_of_row _ _ _ _ _ _ h).trans rfl, (cell_of_row _ _ _ _ _ _ h).trans rfl⟩
theorem BoxD.frozen {w : World} {g : Nat} {t : Tb} (h : BoxD w g t) (o : Nat) : w.frozen? ⟨g, o, none⟩ = false := by unfold BoxD at h; simp [World.frozen?, h]
theorem results_td {fn : Func} {p : Tmp} (h : fn.results = #[.cell p 43]) (tmps : Array Value) (w : World) (g : Nat) {t : Tb} (ht : BoxD w g t) (hp : tmps.getD p undef = .pointer (some ⟨g, 0, none⟩)) :
    (results fn tmps).run Try.prog w = .ok t.agg w := by
  have hp' : tmps[p]?.getD undef = .pointer (some ⟨g, 0, none⟩) := by simpa using hp
  obtain ⟨c0, c1, c2, c3, c4⟩ := ht.cells
  have hr : w.rangeAt g 0 [.int .i64 t.id, .string t.name, .slice t.ca t.cn t.cc, .slice t.ka t.kn t.kc, .bool t.ix] := by
    intro j v hv
    match j, hv with
    | 0, hv => cases hv; exact c0
    | 1, hv => cases hv; exact c1
    | 2, hv => cases hv; exact c2
    | 3, hv => cases hv; exact c3
    | 4, hv => cases hv; exact c4
  simp [results, h, hp', asAddr, Tb.agg, run_loadVar_mid (P := Try.prog) w g 0 43 [.int .i64 t.id, .string t.name, .slice t.ca t.cn t.cc, .slice t.ka t.kn t.kc, .bool t.ix] _ hr Try.underlying43 rfl (by kernel_rfl)]
set_option maxHeartbeats 2000000 in
theorem plain_any (t : Tb) (w : World) : Calls Try.prog 16 #[t.agg] w fun e w' => e = .returned t.agg ∧ Fr w w' (fun _ => False) := by
  obtain ⟨w1, hw1⟩ : ∃ w1, w1 = w.alloc (.cells #[.int .i64 t.id, .string t.name, .slice t.ca t.cn t.cc, .slice t.ka t.kn t.kc, .bool t.ix] 30) := ⟨_, rfl⟩
  have b1 : BoxT w1 w.heap.size t := by rw [hw1]; exact heap_alloc_new w _
  have f1 : Fr w w1 (fun _ => False) := by rw [hw1]; exact Fr.alloc w _ _
  have s1 : w1.heap.size = w.heap.size + 1 := by rw [hw1]; simp
  obtain ⟨w2, hw2⟩ : ∃ w2, w2 = w1.alloc (.cells #[.int .i64 0, .string ⟨#[]⟩, .slice none 0 0, .slice none 0 0, .bool false] 43) := ⟨_, rfl⟩
  have f2 : Fr w1 w2 (fun _ => False) := by rw [hw2]; exact Fr.alloc w1 _ _
  have z2 : BoxD w2 (w.heap.size + 1) zeroT := by rw [hw2, ← s1]; exact heap_alloc_new w1 _
  obtain ⟨x0, x1, x2, x3, x4⟩ := (b1.fr f2 (fun h => h)).cells
  obtain ⟨z0, z1, z2', z3, z4⟩ := z2.cells
  unfold zeroT at z0 z1 z2' z3 z4
  have q0 := z2.frozen 0
  have q1 := z2.frozen 1
  have q2 := z2.frozen 2
  have q3 := z2.frozen 3
  have q4 := z2.frozen 4
  obtain ⟨w3, hw3⟩ : ∃ w3, w3 = ((((w2.setCell ⟨w.heap.size + 1, 0, none⟩ (.int .i64 t.id)).setCell ⟨w.heap.size + 1, 1, none⟩ (.string t.name)).setCell ⟨w.heap.size + 1, 2, none⟩ (.slice t.ca t.cn t.cc)).setCell ⟨w.heap.size + 1, 3, none⟩ (.slice t.ka t.kn t.kc)).setCell ⟨w.heap.size + 1, 4, none⟩ (.bool t.ix) := ⟨_, rfl⟩
  have b3 : BoxD w3 (w.heap.size + 1) t := by
    have h1 := heap_setCell_here _ (w.heap.size + 1) 0 (.int .i64 t.id) _ _ _ z2
    have h2 := heap_setCell_here _ (w.heap.size + 1) 1 (.string t.name) _ _ _ h1
    have h3 := heap_setCell_here _ (w.heap.size + 1) 2 (.slice t.ca t.cn t.cc) _ _ _ h2
    have h4 := heap_setCell_here _ (w.heap.size + 1) 3 (.slice t.ka t.kn t.kc) _ _ _ h3
    have h5 := heap_setCell_here _ (w.heap.size + 1) 4 (.bool t.ix) _ _ _ h4
    rw [hw3]; exact h5
  have F3 := fr_fill (t' := t) w3 hw3
  have HF := hide (((f1.two f2).trans F3).mono (Y := fun _ => False) (fun k hk h => by rcases h with h | h; exact h; omega))
  have HB := hide b3
  rw [hw1] at hw2
  have HW := hide hw2
  have HU := hide hw3
  clear b1 f1 s1 f2 z2 b3 F3 hw1 hw2 hw3
  unfold Tb.agg
  go_enter Try.func16, Try.ntmps16
  go_wp2_with (first | (rw [← HW.out]; clear HW) | (rw [← HU.out]; clear HU))
  exact bodyPost_ret (results_td Try.results16 _ _ (w.heap.size + 1) HB.out rfl) rfl ⟨rfl, HF.out⟩
set_option maxHeartbeats 4000000 in
theorem same_yes {P Q : Nat → Prop} {w : World} (id : Int) (nm : ByteArray) (ix : Bool) (C : List Cn) (K : List ByteArray) (ca ca2 ka ka2 : Option Addr) (cn cc cc2 kn kc kc2 : Nat) (h1 : TabIn P w ⟨id, nm, ca, cn, cc, C, ka, kn, kc, K, ix⟩) (h2 : TabIn Q w ⟨id, nm, ca2, cn, cc2, C, ka2, kn, kc2, K, ix⟩) :
    Calls Try.prog 15 #[(⟨id, nm, ca, cn, cc, C, ka, kn, kc, K, ix⟩ : Tb).agg, (⟨id, nm, ca2, cn, cc2, C, ka2, kn, kc2, K, ix⟩ : Tb).agg] w fun e w' => e = .returned (.bool true) ∧ Fr w w' (fun _ => False) := by
  obtain ⟨w1, hw1⟩ : ∃ w1, w1 = w.alloc (.cells #[.int .i64 id, .string nm, .slice ca cn cc, .slice ka kn kc, .bool ix] 43) := ⟨_, rfl⟩
  have b1 : BoxD w1 w.heap.size ⟨id, nm, ca, cn, cc, C, ka, kn, kc, K, ix⟩ := by rw [hw1]; exact heap_alloc_new w _
  have f1 : Fr w w1 (fun _ => False) := by rw [hw1]; exact Fr.alloc w _ _
  have s1 : w1.heap.size = w.heap.size + 1 := by rw [hw1]; simp
  obtain ⟨w2, hw2⟩ : ∃ w2, w2 = w1.alloc (.cells #[.int .i64 id, .string nm, .slice ca2 cn cc2, .slice ka2 kn kc2, .bool ix] 43) := ⟨_, rfl⟩
  have f2 : Fr w1 w2 (fun _ => False) := by rw [hw2]; exact Fr.alloc w1 _ _
  have b2 : BoxD w2 (w.heap.size + 1) ⟨id, nm, ca2, cn, cc2, C, ka2, kn, kc2, K, ix⟩ := by rw [hw2, ← s1]; exact heap_alloc_new w1 _
  have HB1 := hide (b1.fr f2 (fun h => h))
  have HB2 := hide b2
  have HF := hide (f1.two f2)
  have HT1 := hide (h1.fr (f1.two f2) (fun _ _ h => h))
  have HT2 := hide (h2.fr (f1.two f2) (fun _ _ h => h))
  have hcb : cn ≤ 1048576 := h1.cb
  have hkb : kn ≤ 1048576 := h1.kb
  have HCN : Hid (C.length = cn) := hide h1.cn
  have HKN : Hid (K.length = kn) := hide h1.kn
  obtain ⟨x0, x1, x2, x3, x4⟩ := HB1.out.cells
  obtain ⟨y0, y1, y2, y3, y4⟩ := HB2.out.cells
  dsimp only at x0 x1 x2 x3 x4 y0 y1 y2 y3 y4
  rw [hw1] at hw2
  have HW := hide hw2
  clear b1 f1 s1 f2 b2 hw1 hw2 h1 h2
  unfold Tb.agg
  dsimp only
  go_enter Try.func15, Try.ntmps15
  go_wp2_with (rw [← HW.out]; clear HW)
  go_loopw [5] (fun ix wr => ∃ j : Nat, j ≤ cn ∧ ix = .int .i64 (j : Int) ∧ Fr w2 wr (fun _ => False)) (fun ix _ => cn - (intOf ix).toNat)
  case atStart => exact ⟨0, Nat.zero_le _, rfl, Fr.refl _ _⟩
  case round =>
    rename World => W
    obtain ⟨j, hj, rfl, hf⟩ := hrel
    have HFW := hide hf
    clear hf x0 x1 x2 x3 x4 y0 y1 y2 y3 y4
    obtain ⟨x0, x1, x2, x3, x4⟩ := (HB1.out.fr HFW.out (fun h => h)).cells
    obtain ⟨y0, y1, y2, y3, y4⟩ := (HB2.out.fr HFW.out (fun h => h)).cells
    dsimp only at x0 x1 x2 x3 x4 y0 y1 y2 y3 y4
    rcases Nat.lt_or_ge j cn with hlt | hge
    · obtain ⟨x, hx⟩ : ∃ x, C[j]? = some x := ⟨_, List.getElem?_eq_getElem (by rw [HCN.out]; exact hlt)⟩
      have hfD := HFW.out.two (Fr.drew W _)
      obtain ⟨g, off, ha, _, e0, e1⟩ := (HT1.out.cols.fr hfD (fun _ _ h => h)) j x hx
      obtain ⟨g2, off2, ha2, _, d0, d1⟩ := (HT2.out.cols.fr hfD (fun _ _ h => h)) j x hx
      dsimp only at ha ha2
      have u2 : W.drew.cell? ⟨w.heap.size, 2, none⟩ = some (.slice (some ⟨g, off, none⟩) cn cc) := by rw [← ha]; exact x2
      have v2 : W.drew.cell? ⟨w.heap.size + 1, 2, none⟩ = some (.slice (some ⟨g2, off2, none⟩) cn cc2) := by rw [← ha2]; exact y2
      have HD := hide hfD
      clear hx ha ha2 hfD
      go_wp2_with fail
      refine wp_region_K (fun _ => true) (fun U : World => U = W.drew) (by kernel_rfl) ?_
      have hS : (fun U : World => U = W.drew) W.drew := rfl
      refine wpAnyK_takeTo 0 (some 51) (.pointer (some ⟨w.heap.size, 2, none⟩)) [1, 3, 4, 10] rfl rfl (by kernel_rfl) (by kernel_rfl) (by kernel_rfl) (by kernel_rfl) (fun _ _ _ h => h) hS (Or.inl ⟨rfl, fun w1 hw1 => by have hw1 : w1 = W.drew := hw1; subst hw1; go_simp⟩) ?_
      simp only [Act.put, List.setIfInBounds_toArray, List.set_cons_zero, List.set_cons_succ]
      refine wpAnyK_takeTo 1 (some 52) (.slice (some ⟨g, off, none⟩) cn cc) [3, 4, 10] rfl rfl (by kernel_rfl) (by kernel_rfl) (by kernel_rfl) (by kernel_rfl) (fun _ _ _ h => h) hS (Or.inl ⟨rfl, fun w1 hw1 => by have hw1 : w1 = W.drew := hw1; subst hw1; go_simp⟩) ?_
      simp only [Act.put, List.setIfInBounds_toArray, List.set_cons_zero, List.set_cons_succ]
      refine wpAnyK_takeTo 2 (some 53) (.int .i64 (j : Int)) [3, 4, 10] rfl rfl (by kernel_rfl) (by kernel_rfl) (by kernel_rfl) (by kernel_rfl) (fun _ _ _ h => h) hS (Or.inl ⟨rfl, fun w1 hw1 => by have hw1 : w1 = W.drew := hw1; subst hw1; go_simp⟩) ?_
      simp only [Act.put, List.setIfInBounds_toArray, List.set_cons_zero, List.set_cons_succ]
      refine wpAnyK_takeTo 3 (some 54) (.pointer (some ⟨g, off + j * 2, none⟩)) [4, 10] rfl rfl (by kernel_rfl) (by kernel_rfl) (by kernel_rfl) (by kernel_rfl) (fun _ _ _ h => h) hS (Or.inl ⟨rfl, fun w1 hw1 => by have hw1 : w1 = W.drew := hw1; subst hw1; go_simp⟩) ?_
      simp only [Act.put, List.setIfInBounds_toArray, List.set_cons_zero, List.set_cons_succ]
      refine wpAnyK_takeTo 4 (some 55) (.agg #[.string x.name, .int .i64 x.kind]) [10] rfl rfl (by kernel_rfl) (by kernel_rfl) (by kernel_rfl) (by kernel_rfl) (fun _ _ _ h => h) hS (Or.inl ⟨rfl, fun w1 hw1 => by have hw1 : w1 = W.drew := hw1; subst hw1; go_simp⟩) ?_
      simp only [Act.put, List.setIfInBounds_toArray, List.set_cons_zero, List.set_cons_succ]
      refine wpAnyK_takeTo 5 (some 56) (.pointer (some ⟨w.heap.size + 1, 2, none⟩)) [6, 8, 9, 10] rfl rfl (by kernel_rfl) (by kernel_rfl) (by kernel_rfl) (by kernel_rfl) (fun _ _ _ h => h) hS (Or.inl ⟨rfl, fun w1 hw1 => by have hw1 : w1 = W.drew := hw1; subst hw1; go_simp⟩) ?_
      simp only [Act.put, List.setIfInBounds_toArray, List.set_cons_zero, List.set_cons_succ]
      refine wpAnyK_takeTo 6 (some 57) (.slice (some ⟨g2, off2, none⟩) cn cc2) [8, 9, 10] rfl rfl (by kernel_rfl) (by kernel_rfl) (by kernel_rfl) (by kernel_rfl) (fun _ _ _ h => h) hS (Or.inl ⟨rfl, fun w1 hw1 => by have hw1 : w1 = W.drew := hw1; subst hw1; go_simp⟩) ?_
      simp only [Act.put, List.setIfInBounds_toArray, List.set_cons_zero, List.set_cons_succ]
      refine wpAnyK_takeTo 7 (some 58) (.int .i64 (j : Int)) [8, 9, 10] rfl rfl (by kernel_rfl) (by kernel_rfl) (by kernel_rfl) (by kernel_rfl) (fun _ _ _ h => h) hS (Or.inl ⟨rfl, fun w1 hw1 => by have hw1 : w1 = W.drew := hw1; subst hw1; go_simp⟩) ?_
      simp only [Act.put, List.setIfInBounds_toArray, List.set_cons_zero, List.set_cons_succ]
      refine wpAnyK_takeTo 8 (some 59) (.pointer (some ⟨g2, off2 + j * 2, none⟩)) [9, 10] rfl rfl (by kernel_rfl) (by kernel_rfl) (by kernel_rfl) (by kernel_rfl) (fun _ _ _ h => h) hS (Or.inl ⟨rfl, fun w1 hw1 => by have hw1 : w1 = W.drew := hw1; subst hw1; go_simp⟩) ?_
      simp only [Act.put, List.setIfInBounds_toArray, List.set_cons_zero, List.set_cons_succ]
      refine wpAnyK_takeTo 9 (some 60) (.agg #[.string x.name, .int .i64 x.kind]) [10] rfl rfl (by kernel_rfl) (by kernel_rfl) (by kernel_rfl) (by kernel_rfl) (fun _ _ _ h => h) hS (Or.inl ⟨rfl, fun w1 hw1 => by have hw1 : w1 = W.drew := hw1; subst hw1; go_simp⟩) ?_
      simp only [Act.put, List.setIfInBounds_toArray, List.set_cons_zero, List.set_cons_succ]
      refine wpAnyK_takeTo 10 (some 61) (.bool false) [] rfl rfl (by kernel_rfl) (by kernel_rfl) (by kernel_rfl) (by kernel_rfl) (fun _ _ _ h => h) hS (Or.inl ⟨rfl, fun w1 hw1 => by have hw1 : w1 = W.drew := hw1; subst hw1; go_simp⟩) ?_
      simp only [Act.put, List.setIfInBounds_toArray, List.set_cons_zero, List.set_cons_succ]
      clear hS e0 e1 d0 d1 u2 v2 x0 x1 x2 x3 x4 y0 y1 y2 y3 y4
      refine wpAnyK_done (by kernel_rfl) ?_ _
      go_wp2
      go_roundw
      case rel => exact ⟨j + 1, by omega, by go_num, HD.out⟩
      case measure => simp [intOf]; omega
    · have hcj : ¬ ((j : Int) < (cn : Int)) := by omega
      have hcjb : decide ((j : Int) < (cn : Int)) = false := by simp; omega
      go_wp2_with fail
      go_loopw [6] (fun ix wr => ∃ j : Nat, j ≤ kn ∧ ix = .int .i64 (j : Int) ∧ Fr w2 wr (fun _ => False)) (fun ix _ => kn - (intOf ix).toNat)
      case atStart => exact ⟨0, Nat.zero_le _, rfl, HFW.out⟩
      case round =>
        rename World => Y
        obtain ⟨i, hi, rfl, hf⟩ := hrel
        have HFY := hide hf
        clear hf x0 x1 x2 x3 x4 y0 y1 y2 y3 y4
        obtain ⟨x0, x1, x2, x3, x4⟩ := (HB1.out.fr HFY.out (fun h => h)).cells
        obtain ⟨y0, y1, y2, y3, y4⟩ := (HB2.out.fr HFY.out (fun h => h)).cells
        dsimp only at x0 x1 x2 x3 x4 y0 y1 y2 y3 y4
        rcases Nat.lt_or_ge i kn with hlt | hge2
        · obtain ⟨x, hx⟩ : ∃ x, K[i]? = some x := ⟨_, List.getElem?_eq_getElem (by rw [HKN.out]; exact hlt)⟩
          have hfD := HFY.out.two (Fr.drew Y _)
          obtain ⟨g, off, ha, _, e0⟩ := (HT1.out.keys.fr hfD (fun _ _ h => h)) i x hx
          obtain ⟨g2, off2, ha2, _, d0⟩ := (HT2.out.keys.fr hfD (fun _ _ h => h)) i x hx
          dsimp only at ha ha2
          have u2 : Y.drew.cell? ⟨w.heap.size, 3, none⟩ = some (.slice (some ⟨g, off, none⟩) kn kc) := by rw [← ha]; exact x3
          have v2 : Y.drew.cell? ⟨w.heap.size + 1, 3, none⟩ = some (.slice (some ⟨g2, off2, none⟩) kn kc2) := by rw [← ha2]; exact y3
          have HD := hide hfD
          clear hx ha ha2 hfD
          go_wp2_with fail
          refine wp_region_K (fun _ => true) (fun U : World => U = Y.drew) (by kernel_rfl) ?_
          have hS : (fun U : World => U = Y.drew) Y.drew := rfl
          refine wpAnyK_takeTo 0 (some 69) (.pointer (some ⟨w.heap.size, 3, none⟩)) [1, 3, 4, 10] rfl rfl (by kernel_rfl) (by kernel_rfl) (by kernel_rfl) (by kernel_rfl) (fun _ _ _ h => h) hS (Or.inl ⟨rfl, fun w1 hw1 => by have hw1 : w1 = Y.drew := hw1; subst hw1; go_simp⟩) ?_
          simp only [Act.put, List.setIfInBounds_toArray, List.set_cons_zero, List.set_cons_succ]
          refine wpAnyK_takeTo 1 (some 70) (.slice (some ⟨g, off, none⟩) kn kc) [3, 4, 10] rfl rfl (by kernel_rfl) (by kernel_rfl) (by kernel_rfl) (by kernel_rfl) (fun _ _ _ h => h) hS (Or.inl ⟨rfl, fun w1 hw1 => by have hw1 : w1 = Y.drew := hw1; subst hw1; go_simp⟩) ?_
          simp only [Act.put, List.setIfInBounds_toArray, List.set_cons_zero, List.set_cons_succ]
          refine wpAnyK_takeTo 2 (some 71) (.int .i64 (i : Int)) [3, 4, 10] rfl rfl (by kernel_rfl) (by kernel_rfl) (by kernel_rfl) (by kernel_rfl) (fun _ _ _ h => h) hS (Or.inl ⟨rfl, fun w1 hw1 => by have hw1 : w1 = Y.drew := hw1; subst hw1; go_simp⟩) ?_
          simp only [Act.put, List.setIfInBounds_toArray, List.set_cons_zero, List.set_cons_succ]
          refine wpAnyK_takeTo 3 (some 72) (.pointer (some ⟨g, off + i, none⟩)) [4, 10] rfl rfl (by kernel_rfl) (by kernel_rfl) (by kernel_rfl) (by kernel_rfl) (fun _ _ _ h => h) hS (Or.inl ⟨rfl, fun w1 hw1 => by have hw1 : w1 = Y.drew := hw1; subst hw1; go_simp⟩) ?_
          simp only [Act.put, List.setIfInBounds_toArray, List.set_cons_zero, List.set_cons_succ]
          refine wpAnyK_takeTo 4 (some 73) (.string x) [10] rfl rfl (by kernel_rfl) (by kernel_rfl) (by kernel_rfl) (by kernel_rfl) (fun _ _ _ h => h) hS (Or.inl ⟨rfl, fun w1 hw1 => by have hw1 : w1 = Y.drew := hw1; subst hw1; go_simp⟩) ?_
          simp only [Act.put, List.setIfInBounds_toArray, List.set_cons_zero, List.set_cons_succ]
          refine wpAnyK_takeTo 5 (some 74) (.pointer (some ⟨w.heap.size + 1, 3, none⟩)) [6, 8, 9, 10] rfl rfl (by kernel_rfl) (by kernel_rfl) (by kernel_rfl) (by kernel_rfl) (fun _ _ _ h => h) hS (Or.inl ⟨rfl, fun w1 hw1 => by have hw1 : w1 = Y.drew := hw1; subst hw1; go_simp⟩) ?_
          simp only [Act.put, List.setIfInBounds_toArray, List.set_cons_zero, List.set_cons_succ]
          refine wpAnyK_takeTo 6 (some 75) (.slice (some ⟨g2, off2, none⟩) kn kc2) [8, 9, 10] rfl rfl (by kernel_rfl) (by kernel_rfl) (by kernel_rfl) (by kernel_rfl) (fun _ _ _ h => h) hS (Or.inl ⟨rfl, fun w1 hw1 => by have hw1 : w1 = Y.drew := hw1; subst hw1; go_simp⟩) ?_
          simp only [Act.put, List.setIfInBounds_toArray, List.set_cons_zero, List.set_cons_succ]
          refine wpAnyK_takeTo 7 (some 76) (.int .i64 (i : Int)) [8, 9, 10] rfl rfl (by kernel_rfl) (by kernel_rfl) (by kernel_rfl) (by kernel_rfl) (fun _ _ _ h => h) hS (Or.inl ⟨rfl, fun w1 hw1 => by have hw1 : w1 = Y.drew := hw1; subst hw1; go_simp⟩) ?_
          simp only [Act.put, List.setIfInBounds_toArray, List.set_cons_zero, List.set_cons_succ]
          refine wpAnyK_takeTo 8 (some 77) (.pointer (some ⟨g2, off2 + i, none⟩)) [9, 10] rfl rfl (by kernel_rfl) (by kernel_rfl) (by kernel_rfl) (by kernel_rfl) (fun _ _ _ h => h) hS (Or.inl ⟨rfl, fun w1 hw1 => by have hw1 : w1 = Y.drew := hw1; subst hw1; go_simp⟩) ?_
          simp only [Act.put, List.setIfInBounds_toArray, List.set_cons_zero, List.set_cons_succ]
          refine wpAnyK_takeTo 9 (some 78) (.string x) [10] rfl rfl (by kernel_rfl) (by kernel_rfl) (by kernel_rfl) (by kernel_rfl) (fun _ _ _ h => h) hS (Or.inl ⟨rfl, fun w1 hw1 => by have hw1 : w1 = Y.drew := hw1; subst hw1; go_simp⟩) ?_
          simp only [Act.put, List.setIfInBounds_toArray, List.set_cons_zero, List.set_cons_succ]
          refine wpAnyK_takeTo 10 (some 79) (.bool false) [] rfl rfl (by kernel_rfl) (by kernel_rfl) (by kernel_rfl) (by kernel_rfl) (fun _ _ _ h => h) hS (Or.inl ⟨rfl, fun w1 hw1 => by have hw1 : w1 = Y.drew := hw1; subst hw1; go_simp⟩) ?_
          simp only [Act.put, List.setIfInBounds_toArray, List.set_cons_zero, List.set_cons_succ]
          clear hS e0 d0 u2 v2 x0 x1 x2 x3 x4 y0 y1 y2 y3 y4
          refine wpAnyK_done (by kernel_rfl) ?_ _
          go_wp2
          go_roundw
          case rel => exact ⟨i + 1, by omega, by go_num, HD.out⟩
          case measure => simp [intOf]; omega
        · have hci : ¬ ((i : Int) < (kn : Int)) := by omega
          have hcib : decide ((i : Int) < (kn : Int)) = false := by simp; omega
          go_wp2
          go_ret
          exact ⟨rfl, HF.out.two HFY.out⟩
end Go.Proofs.Ytdeopneififnnaa
