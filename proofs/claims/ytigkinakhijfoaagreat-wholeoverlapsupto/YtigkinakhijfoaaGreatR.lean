/- insert: a key that isn't there. -/
import Derived.Test.YtigkinakhijfoaaGreatP
namespace Go.Proofs.YtigkinakhijfoaaGreat
open Go.RowKit
set_option maxRecDepth 100000
set_option linter.unusedVariables false
set_option linter.unusedSimpArgs false

theorem find_false {L : List It} {s : ByteArray} {i : Nat} {b : Bool} (h : FindP L s i b) (hn : ∀ x ∈ L, x.key ≠ s) : b = false := by
  cases b with
  | false => rfl
  | true =>
    obtain ⟨x, hx, e⟩ := h.2.2.2.1 rfl
    exact absurd e (hn x (List.mem_of_getElem? hx))
theorem items_no {ks : List Kd} {L : List It} {s : ByteArray} (hn : ∀ x ∈ weave (ks.map Kd.F) L, x.key ≠ s) : ∀ x ∈ L, x.key ≠ s := fun x hx => hn x ((weave_sub _ L).subset hx)
/-- The place among one more. -/
theorem find_more {L : List It} {s : ByteArray} {i i2 : Nat} {x : It} {b b2 : Bool} (h : FindP L s i b) (h2 : FindP (L.take i ++ x :: L.drop i) s i2 b2) : i2 = i ∨ i2 = i + 1 := by
  have hil := h.1
  have htl : (L.take i).length = i := by rw [List.length_take]; omega
  have hget : ∀ k, (L.take i ++ x :: L.drop i)[k]? = if k < i then L[k]? else if k = i then some x else L[k - 1]? := fun k => by
    rw [List.getElem?_append, htl]
    split
    · rw [List.getElem?_take, if_pos (by assumption)]
    · rename_i hk
      by_cases hki : k = i
      · subst hki; simp
      · rw [if_neg hki, show k - i = (k - 1 - i) + 1 by omega, List.getElem?_cons_succ, List.getElem?_drop, show i + (k - 1 - i) = k - 1 by omega]
  have hl2 : (L.take i ++ x :: L.drop i).length = L.length + 1 := by rw [List.length_append, List.length_cons, List.length_take, List.length_drop]; omega
  rcases Nat.lt_or_ge i2 i with hlt | hge
  · exfalso
    have hv : L[i2]? = some (L[i2]'(by omega)) := List.getElem?_eq_getElem (by omega)
    have a1 := h.2.1 i2 _ hlt hv
    have a2 := h2.2.2.1 i2 (L[i2]'(by omega)) (Nat.le_refl _) (by rw [hget, if_pos hlt]; exact hv)
    omega
  · rcases Nat.lt_or_ge (i + 1) i2 with hgt | hle
    · exfalso
      have hb := h2.1
      rw [hl2] at hb
      have hv : L[i]? = some (L[i]'(by omega)) := List.getElem?_eq_getElem (by omega)
      have a1 := h.2.2.1 i _ (Nat.le_refl _) hv
      have a2 := h2.2.1 (i + 1) (L[i]'(by omega)) hgt (by rw [hget, if_neg (by omega), if_neg (by omega), show i + 1 - 1 = i by omega]; exact hv)
      omega
    · omega
/-- On the way: a node with room. -/
def InsW (o : Nat) (cur : Int) (tb root : Nat) (cnt : Int) (s : ByteArray) (D : World → Prop) (v : Int) (h : Nat) (vn vi : Value) (W : World) : Prop := ∃ (lo : Nat) (p : Kd) (lv kv : Value) (L : List It) (ks : List Kd) (i : Nat), vn = .pointer (some ⟨p.g, 0, none⟩) ∧ vi = .int .i64 (i : Int) ∧ NodeV o cur lo W p cur lv kv L ks ∧ KOk o cur h W L ks ∧ Srt p.F ∧ FindP L s i false ∧ (∀ x ∈ p.F, x.key ≠ s) ∧ L.length < 2 * o - 1 ∧ TreeB W tb o cnt root cur ∧ ¬ p.X tb ∧ Wand o cur h lo W p (InsR s v p.F) D
set_option maxHeartbeats 16000000 in
theorem insert_any {o : Nat} {cur : Int} {h : Nat} {w : World} {d : Kd} {tb : Nat} {cnt : Int} (hT : TreeIs o cur w tb cnt h d) (s : ByteArray) (v : Int) (hno : ∀ x ∈ d.F, x.key ≠ s) : Calls Tryz.prog 31 #[.pointer (some ⟨tb, 0, none⟩), .string s, .int .i64 v] w fun e w' => e = .returned (.tuple #[]) ∧ Left o cur w tb cnt d (InsR s v d.F) w' := by
  obtain ⟨t, lv, kv, L, ks, hN, hK⟩ := sub_iff.1 hT.sub
  have hL : Srt L := by have := hT.srt; rw [hN.flat] at this; exact srt_items this
  have hlb : L.length ≤ 1048576 := by have := hN.high; have := hT.hi64; omega
  have hnL : ∀ x ∈ L, x.key ≠ s := by have hq := hno; rw [hN.flat] at hq; exact items_no hq
  have HT := hide hT
  have ho64 := hT.hi64
  have ho2 := hT.lo2
  obtain ⟨D, hD⟩ : ∃ D, D = Left o cur w tb cnt d (InsR s v d.F) := ⟨_, rfl⟩
  rw [← hD]
  have HDD := hide hD
  obtain ⟨y0, y1, y2, y3⟩ := hT.box.cells
  obtain ⟨dg, hdg⟩ : ∃ dg, dg = d.g := ⟨_, rfl⟩
  rw [← hdg] at y2
  have HN0 := hide hN
  have HK0 := hide hK
  have HNO0 := hide hno
  have HDG := hide hdg
  have HL0 := hide hL
  have HNL0 := hide hnL
  clear hT hN hK hno hD hdg hL hnL y3
  go_enter Tryz.func31, Tryz.ntmps31
  go_wp2_with fail
  refine wp_region_K (fun z => decide (z < 8)) (fun U : World => Fr w.drew U (fun _ => False)) (by kernel_rfl) ?_
  obtain ⟨Wd, hWd⟩ : ∃ Wd, Wd = w.drew := ⟨_, rfl⟩
  have G0 : Fr w Wd (fun _ => False) := by rw [hWd]; exact Fr.drew _ _
  rw [← hWd]
  clear hWd
  have hS : (fun U : World => Fr Wd U (fun _ => False)) Wd := Fr.refl _ _
  have hSx : ∀ V, Fr Wd V (fun _ => False) → V.cell? ⟨tb, 0, none⟩ = some (.int .i64 (o : Int)) ∧ V.cell? ⟨tb, 1, none⟩ = some (.int .i64 cnt) ∧ V.cell? ⟨tb, 2, none⟩ = some (.pointer (some ⟨dg, 0, none⟩)) ∧ True := fun V hV => by
    have hd := G0.two hV
    exact ⟨hd.cell (fun h => h) y0, hd.cell (fun h => h) y1, hd.cell (fun h => h) y2, trivial⟩
  clear y0 y1 y2
  refine wpAnyK_takeTo 0 (some 9) (.pointer (some ⟨tb, 0, none⟩)) [1, 2, 3, 8] rfl rfl (by kernel_rfl) (by kernel_rfl) (by kernel_rfl) (by kernel_rfl) (fun _ _ _ h => h) hS (Or.inl ⟨rfl, fun w1 hw1 => by obtain ⟨q0, q1, q2, _⟩ := hSx _ hw1; go_simp⟩) ?_
  simp only [Act.put, List.setIfInBounds_toArray, List.set_cons_zero, List.set_cons_succ]
  refine wpAnyK_takeTo 1 (some 10) (.pointer (some ⟨tb, 0, none⟩)) [2, 3, 8] rfl rfl (by kernel_rfl) (by kernel_rfl) (by kernel_rfl) (by kernel_rfl) (fun _ _ _ h => h) hS (Or.inl ⟨rfl, fun w1 hw1 => by obtain ⟨q0, q1, q2, _⟩ := hSx _ hw1; go_simp⟩) ?_
  simp only [Act.put, List.setIfInBounds_toArray, List.set_cons_zero, List.set_cons_succ]
  refine wpAnyK_takeTo 2 (some 11) (.pointer (some ⟨tb, 0, none⟩)) [3, 8] rfl rfl (by kernel_rfl) (by kernel_rfl) (by kernel_rfl) (by kernel_rfl) (fun _ _ _ h => h) hS (Or.inl ⟨rfl, fun w1 hw1 => by obtain ⟨q0, q1, q2, _⟩ := hSx _ hw1; go_simp⟩) ?_
  simp only [Act.put, List.setIfInBounds_toArray, List.set_cons_zero, List.set_cons_succ]
  refine wpAnyK_takeTo 3 (some 12) (.agg #[.int .i64 (o : Int), .int .i64 cnt]) [8] rfl rfl (by kernel_rfl) (by kernel_rfl) (by kernel_rfl) (by kernel_rfl) (fun _ _ _ h => h) hS (Or.inl ⟨rfl, fun w1 hw1 => by obtain ⟨q0, q1, q2, _⟩ := hSx _ hw1; go_simp⟩) ?_
  simp only [Act.put, List.setIfInBounds_toArray, List.set_cons_zero, List.set_cons_succ]
  refine wpAnyK_takeTo 4 (some 13) (.pointer (some ⟨tb, 0, none⟩)) [5, 6, 7, 8] rfl rfl (by kernel_rfl) (by kernel_rfl) (by kernel_rfl) (by kernel_rfl) (fun _ _ _ h => h) hS (Or.inl ⟨rfl, fun w1 hw1 => by obtain ⟨q0, q1, q2, _⟩ := hSx _ hw1; go_simp⟩) ?_
  simp only [Act.put, List.setIfInBounds_toArray, List.set_cons_zero, List.set_cons_succ]
  refine wpAnyK_takeTo 5 (some 14) (.pointer (some ⟨tb, 0, none⟩)) [6, 7, 8] rfl rfl (by kernel_rfl) (by kernel_rfl) (by kernel_rfl) (by kernel_rfl) (fun _ _ _ h => h) hS (Or.inl ⟨rfl, fun w1 hw1 => by obtain ⟨q0, q1, q2, _⟩ := hSx _ hw1; go_simp⟩) ?_
  simp only [Act.put, List.setIfInBounds_toArray, List.set_cons_zero, List.set_cons_succ]
  refine wpAnyK_takeTo 6 (some 15) (.pointer (some ⟨tb, 2, none⟩)) [7, 8] rfl rfl (by kernel_rfl) (by kernel_rfl) (by kernel_rfl) (by kernel_rfl) (fun _ _ _ h => h) hS (Or.inl ⟨rfl, fun w1 hw1 => by obtain ⟨q0, q1, q2, _⟩ := hSx _ hw1; go_simp⟩) ?_
  simp only [Act.put, List.setIfInBounds_toArray, List.set_cons_zero, List.set_cons_succ]
  refine wpAnyK_takeTo 7 (some 16) (.pointer (some ⟨dg, 0, none⟩)) [8] rfl rfl (by kernel_rfl) (by kernel_rfl) (by kernel_rfl) (by kernel_rfl) (fun _ _ _ h => h) hS (Or.inl ⟨rfl, fun w1 hw1 => by obtain ⟨q0, q1, q2, _⟩ := hSx _ hw1; go_simp⟩) ?_
  simp only [Act.put, List.setIfInBounds_toArray, List.set_cons_zero, List.set_cons_succ]
  refine wpAnyK_one (i := 8) (by kernel_rfl) rfl rfl ?_
  refine wp_call_to (some 17) rfl 52 #[.agg #[.int .i64 (o : Int), .int .i64 cnt], .pointer (some ⟨dg, 0, none⟩)] (by go_simp) (by rw [HDG.out]; exact full_any (HN0.out.toNodeP.fr G0 (fun _ _ h => h)) o (by omega) ho64 cnt) ?_
  rintro en w1 ⟨rfl, f1⟩
  refine ⟨_, rfl, fun h => by simp at h, ?_⟩
  simp only [Act.put, List.setIfInBounds_toArray, List.set_cons_zero, List.set_cons_succ]
  refine wpAnyK_done (by kernel_rfl) ?_ _
  have F1 := G0.two f1
  have HF1 := hide F1
  clear hS hSx G0 f1 F1
  by_cases hfu : L.length = 2 * o - 1
  · have hfd : decide (L.length = 2 * o - 1) = true := decide_eq_true hfu
    rw [hfd]
    clear hfd
    have hTw := HT.out.fr HF1.out (fun h => h) (fun _ _ h => h)
    obtain ⟨_, _, y2', y3'⟩ := hTw.box.cells
    rw [← HDG.out] at y2'
    have HTW := hide hTw
    clear hTw
    go_wp2_with fail
    refine wp_region_K (fun z => decide (z < 12)) (fun U : World => Fr w1.drew U (fun _ => False)) (by kernel_rfl) ?_
    obtain ⟨Wd, hWd⟩ : ∃ Wd, Wd = w1.drew := ⟨_, rfl⟩
    have G1 : Fr w1 Wd (fun _ => False) := by rw [hWd]; exact Fr.drew _ _
    rw [← hWd]
    clear hWd
    have hS : (fun U : World => Fr Wd U (fun _ => False)) Wd := Fr.refl _ _
    have hSx : ∀ V, Fr Wd V (fun _ => False) → V.cell? ⟨tb, 3, none⟩ = some (.int .i64 cur) ∧ V.cell? ⟨tb, 2, none⟩ = some (.pointer (some ⟨dg, 0, none⟩)) ∧ True := fun V hV => by
      have hd := G1.two hV
      exact ⟨hd.cell (fun h => h) y3', hd.cell (fun h => h) y2', trivial⟩
    clear y3' y2'
    refine wpAnyK_takeTo 0 (some 18) (.pointer (some ⟨tb, 0, none⟩)) [12, 13, 14] rfl rfl (by kernel_rfl) (by kernel_rfl) (by kernel_rfl) (by kernel_rfl) (fun _ _ _ h => h) hS (Or.inl ⟨rfl, fun w1 hw1 => by obtain ⟨q0, q1, _⟩ := hSx _ hw1; go_simp⟩) ?_
    simp only [Act.put, List.setIfInBounds_toArray, List.set_cons_zero, List.set_cons_succ]
    refine wpAnyK_takeTo 1 (some 19) (.pointer (some ⟨tb, 0, none⟩)) [2, 3, 4, 10, 11, 12, 13, 14] rfl rfl (by kernel_rfl) (by kernel_rfl) (by kernel_rfl) (by kernel_rfl) (fun _ _ _ h => h) hS (Or.inl ⟨rfl, fun w1 hw1 => by obtain ⟨q0, q1, _⟩ := hSx _ hw1; go_simp⟩) ?_
    simp only [Act.put, List.setIfInBounds_toArray, List.set_cons_zero, List.set_cons_succ]
    refine wpAnyK_takeTo 2 (some 20) (.pointer (some ⟨tb, 0, none⟩)) [3, 4, 10, 11, 12, 13, 14] rfl rfl (by kernel_rfl) (by kernel_rfl) (by kernel_rfl) (by kernel_rfl) (fun _ _ _ h => h) hS (Or.inl ⟨rfl, fun w1 hw1 => by obtain ⟨q0, q1, _⟩ := hSx _ hw1; go_simp⟩) ?_
    simp only [Act.put, List.setIfInBounds_toArray, List.set_cons_zero, List.set_cons_succ]
    refine wpAnyK_takeTo 3 (some 21) (.pointer (some ⟨tb, 3, none⟩)) [4, 10, 11, 12, 13, 14] rfl rfl (by kernel_rfl) (by kernel_rfl) (by kernel_rfl) (by kernel_rfl) (fun _ _ _ h => h) hS (Or.inl ⟨rfl, fun w1 hw1 => by obtain ⟨q0, q1, _⟩ := hSx _ hw1; go_simp⟩) ?_
    simp only [Act.put, List.setIfInBounds_toArray, List.set_cons_zero, List.set_cons_succ]
    refine wpAnyK_takeTo 4 (some 22) (.int .i64 cur) [10, 11, 12, 13, 14] rfl rfl (by kernel_rfl) (by kernel_rfl) (by kernel_rfl) (by kernel_rfl) (fun _ _ _ h => h) hS (Or.inl ⟨rfl, fun w1 hw1 => by obtain ⟨q0, q1, _⟩ := hSx _ hw1; go_simp⟩) ?_
    simp only [Act.put, List.setIfInBounds_toArray, List.set_cons_zero, List.set_cons_succ]
    refine wpAnyK_takeTo 5 (some 23) (.pointer (some ⟨tb, 0, none⟩)) [6, 7, 8, 9, 10, 11, 12, 13, 14] rfl rfl (by kernel_rfl) (by kernel_rfl) (by kernel_rfl) (by kernel_rfl) (fun _ _ _ h => h) hS (Or.inl ⟨rfl, fun w1 hw1 => by obtain ⟨q0, q1, _⟩ := hSx _ hw1; go_simp⟩) ?_
    simp only [Act.put, List.setIfInBounds_toArray, List.set_cons_zero, List.set_cons_succ]
    refine wpAnyK_takeTo 6 (some 24) (.pointer (some ⟨tb, 0, none⟩)) [7, 8, 9, 10, 11, 12, 13, 14] rfl rfl (by kernel_rfl) (by kernel_rfl) (by kernel_rfl) (by kernel_rfl) (fun _ _ _ h => h) hS (Or.inl ⟨rfl, fun w1 hw1 => by obtain ⟨q0, q1, _⟩ := hSx _ hw1; go_simp⟩) ?_
    simp only [Act.put, List.setIfInBounds_toArray, List.set_cons_zero, List.set_cons_succ]
    refine wpAnyK_takeTo 7 (some 25) (.pointer (some ⟨tb, 2, none⟩)) [8, 9, 10, 11, 12, 13, 14] rfl rfl (by kernel_rfl) (by kernel_rfl) (by kernel_rfl) (by kernel_rfl) (fun _ _ _ h => h) hS (Or.inl ⟨rfl, fun w1 hw1 => by obtain ⟨q0, q1, _⟩ := hSx _ hw1; go_simp⟩) ?_
    simp only [Act.put, List.setIfInBounds_toArray, List.set_cons_zero, List.set_cons_succ]
    refine wpAnyK_takeTo 8 (some 26) (.pointer (some ⟨dg, 0, none⟩)) [9, 10, 11, 12, 13, 14] rfl rfl (by kernel_rfl) (by kernel_rfl) (by kernel_rfl) (by kernel_rfl) (fun _ _ _ h => h) hS (Or.inl ⟨rfl, fun w1 hw1 => by obtain ⟨q0, q1, _⟩ := hSx _ hw1; go_simp⟩) ?_
    simp only [Act.put, List.setIfInBounds_toArray, List.set_cons_zero, List.set_cons_succ]
    obtain ⟨VB, hVB⟩ : ∃ VB, VB = Wd.heap.size := ⟨_, rfl⟩
    obtain ⟨Wa, hWa⟩ : ∃ Wa, Wa = Wd.alloc (.cells #[.pointer (some ⟨dg, 0, none⟩)] 74) := ⟨_, rfl⟩
    have Ga : Fr Wd Wa (fun _ => False) := by rw [hWa]; exact Fr.alloc _ _ _
    have ba : Wa.heap[VB]? = some (.cells #[.pointer (some ⟨dg, 0, none⟩)] 74 (0, 0)) := by rw [hWa, hVB]; exact heap_alloc_new Wd _
    refine wpAnyK_one (i := 9) (by kernel_rfl) rfl rfl ?_
    go_simp
    rw [← hWa, ← hVB]
    refine ⟨Ga, ?_⟩
    have HVB := hide hVB
    clear hVB hWa
    replace hS : (fun U : World => Fr Wd U (fun _ => False)) Wa := Ga
    refine wpAnyK_takeTo 10 (some 28) (.agg #[.int .i64 cur, .slice none 0 0, .slice (some ⟨VB, 0, none⟩) 1 1]) [11, 12, 13, 14] rfl rfl (by kernel_rfl) (by kernel_rfl) (by kernel_rfl) (by kernel_rfl) (fun _ _ _ h => h) hS (Or.inl ⟨rfl, fun w1 hw1 => by obtain ⟨q0, q1, _⟩ := hSx _ hw1; go_simp⟩) ?_
    simp only [Act.put, List.setIfInBounds_toArray, List.set_cons_zero, List.set_cons_succ]
    obtain ⟨R, hR⟩ : ∃ R, R = Wa.heap.size := ⟨_, rfl⟩
    obtain ⟨Wb, hWb⟩ : ∃ Wb, Wb = Wa.alloc (.cells #[.int .i64 cur, .slice none 0 0, .slice (some ⟨VB, 0, none⟩) 1 1] 78) := ⟨_, rfl⟩
    have Gb : Fr Wa Wb (fun _ => False) := by rw [hWb]; exact Fr.alloc _ _ _
    have bb : Wb.heap[R]? = some (.cells #[.int .i64 cur, .slice none 0 0, .slice (some ⟨VB, 0, none⟩) 1 1] 78 (0, 0)) := by rw [hWb, hR]; exact heap_alloc_new Wa _
    refine wpAnyK_one (i := 11) (by kernel_rfl) rfl rfl ?_
    go_simp
    rw [← hWb, ← hR]
    refine ⟨Ga.two Gb, ?_⟩
    have HR := hide hR
    clear hR hWb
    have Gw : Fr w1 Wb (fun _ => False) := (G1.two Ga).two Gb
    have hTb := HTW.out.fr Gw (fun h => h) (fun _ _ h => h)
    have hcb : Wb.cell? ⟨tb, 2, none⟩ = some (.pointer (some ⟨d.g, 0, none⟩)) := hTb.box.cells.2.2.1
    have hfb : Wb.frozen? ⟨tb, 2, none⟩ = false := block_frozen hTb.box.box _
    obtain ⟨W2, hW2⟩ : ∃ W2, W2 = Wb.setCell ⟨tb, 2, none⟩ (.pointer (some ⟨R, 0, none⟩)) := ⟨_, rfl⟩
    have hB2 : TreeB W2 tb o cnt R cur := by rw [hW2]; exact hTb.box.root R
    have F2 : Fr Wb W2 (fun k => k = tb) := by rw [hW2]; exact Fr.setCell _ _ _
    have HW2 := hide hW2
    clear hW2 hS hSx
    refine wpAnyK_one (i := 12) (by kernel_rfl) rfl rfl ?_
    go_simp
    refine wpAnyK_one (i := 13) (by kernel_rfl) rfl rfl ?_
    go_simp
    refine wpAnyK_one (i := 14) (by kernel_rfl) rfl rfl ?_
    go_simp
    rw [← HW2.out]
    refine wpAnyK_done (by kernel_rfl) ?_ _
    clear HW2 hcb hfb
    have htw : tb < w.heap.size := HT.out.lt
    have hz0 := HF1.out.size
    have hz1 := G1.size
    have hz2 := Ga.size
    have hz3 := Gb.size
    have hz4 := F2.size
    have hVBl : VB < Wa.heap.size := (Array.getElem?_eq_some_iff.1 ba).1
    have hRl : R < Wb.heap.size := (Array.getElem?_eq_some_iff.1 bb).1
    have hVBe := HVB.out
    have hRe := HR.out
    have FT : Fr w W2 (fun k => k = tb) := (((HF1.out.two Gw).mono (Y := fun k => k = tb) (fun _ _ h => h.elim)).two F2)
    have bb2 : W2.heap[R]? = some (.cells #[.int .i64 cur, .slice none 0 0, .slice (some ⟨VB, 0, none⟩) 1 1] 78 (0, 0)) := by rw [F2.block R hRl (by omega)]; exact bb
    have ba2 : W2.heap[VB]? = some (.cells #[.pointer (some ⟨dg, 0, none⟩)] 74 (0, 0)) := by rw [F2.block VB (by omega) (by omega), Gb.block VB hVBl (fun h => h)]; exact ba
    have rR : Raw W2 R cur (.slice none 0 0) (.slice (some ⟨VB, 0, none⟩) 1 1) [] ([d].map Kd.g) (fun k => w1.heap.size ≤ k ∧ k < W2.heap.size) := ⟨bb2, World.ownsRow_nil W2 0 106 2, ⟨rfl, .inr ⟨VB, 1, _, rfl, Nat.zero_le _, ba2, Nat.le_refl _, by unfold maxLen; omega, rfl, by rw [HDG.out]; rfl⟩⟩, fun k hk => by
        rcases hk with rfl | hk | hk
        · exact ⟨by omega, by omega⟩
        · cases hk
        · have hk : VB = k := by simpa [Value.ownBlock] using hk
          exact ⟨by omega, by omega⟩, fun k hk => hk.2⟩
    have hdx := HT.out.sub.x
    have hNd : NodeV o cur (o - 1) W2 d t lv kv L ks := (HN0.out.fr FT (fun k hk e => HT.out.out (e ▸ hk))).lower (by omega)
    have hKd : KOk o cur h W2 L ks := HK0.out.fr FT (fun x hx k hk e => HT.out.out (by have := HN0.out.sx x hx k hk; rw [e] at this; exact this))
    have hnode := rR.node (fun x hx k hk => by
        obtain rfl : x = d := by simpa using hx
        have := hdx.2.1 k hk
        exact ⟨fun hh => by omega, by omega⟩) (fun x hx k hk => by
        obtain rfl : x = d := by simpa using hx
        exact hdx.2.2 k hk) (Apart.one d) d.F
    obtain ⟨p0, hp0⟩ : ∃ p0 : Kd, p0 = ⟨R, fun k => (w1.heap.size ≤ k ∧ k < W2.heap.size) ∨ ∃ e ∈ [d], e.X k, fun k => (w1.heap.size ≤ k ∧ k < W2.heap.size) ∨ ∃ e ∈ [d], e.Y k, d.F⟩ := ⟨_, rfl⟩
    rw [← hp0] at hnode
    have hp0X : ∀ k, p0.X k → d.X k ∨ w.heap.size ≤ k := fun k hk => by
      rw [hp0] at hk
      rcases hk with hk | ⟨x, hx, hk⟩
      · exact .inr (by omega)
      · obtain rfl : x = d := by simpa using hx
        exact .inl hk
    have hp0Y : ∀ k, p0.Y k → d.Y k ∨ w.heap.size ≤ k := fun k hk => by
      rw [hp0] at hk
      rcases hk with hk | ⟨x, hx, hk⟩
      · exact .inr (by omega)
      · obtain rfl : x = d := by simpa using hx
        exact .inl hk
    have hp0o : ¬ p0.X tb := fun hx => by
      rcases hp0X tb hx with h | h
      · exact HT.out.out h
      · omega
    have hV0 : NodeV o cur 0 W2 p0 cur (.slice none 0 0) (.slice (some ⟨VB, 0, none⟩) 1 1) [] [d] := ⟨hnode, Nat.zero_le _, Nat.zero_le _, by rw [hp0]; rfl⟩
    have hK0' : KOk o cur (h + 1) W2 [] [d] := ⟨rfl, fun x hx => by
      obtain rfl : x = d := by simpa using hx
      exact sub_iff.2 ⟨_, _, _, _, _, hNd, hKd⟩⟩
    have hgR : p0.g = R := by rw [hp0]
    have hHA := halve_any hB2 hp0o hV0 hK0' (i := 0) rfl hNd hKd (by simp; omega) hfu ho2 ho64
    rw [hgR] at hHA
    have HHA := hide hHA
    have yR := hB2.cells.2.2.1
    have HB2 := hide hB2
    have HFT := hide FT
    have HP0X := hide hp0X
    have HP0Y := hide hp0Y
    have HP0O := hide hp0o
    have HP0F : Hid (p0.F = d.F) := hide (by rw [hp0])
    have HGR := hide hgR
    have HP0L : Hid (∀ k, p0.Y k → p0.X k) := hide hnode.yx
    clear hHA hB2 hV0 hK0' hgR hp0X hp0Y hp0o hnode hp0 hNd hKd hdx rR ba2 bb2 FT hVBe hRe hRl hVBl hz0 hz1 hz2 hz3 hz4 F2 hTb Gw bb Gb ba Ga G1 hfu HTW HVB HR HN0 HK0
    go_wp2_with fail
    refine HHA.out.mono ?_
    rintro en W3 ⟨p', l2, k2, x, A, Bk, d1, d2, rfl, hg2, hF2, hn2, hk2, hAl, hdd, hX2, hY2, f2⟩
    have hpF : p'.F = d.F := by rw [hF2, HP0F.out]
    have hB3 : TreeB W3 tb o cnt p'.g cur := by
      rw [hg2, HGR.out]
      exact HB2.out.fr f2 (fun h => HP0O.out (HP0L.out tb h))
    have hn3 : NodeV o cur (rlo (h + 1)) W3 p' cur l2 k2 (([] : List It).take 0 ++ x :: ([] : List It).drop 0) (A ++ d1 :: d2 :: Bk) := hn2.lower (by unfold rlo; rw [if_neg (by omega)]; simp)
    have hpo : ¬ p'.X tb := fun hx => by
      rcases hX2 tb hx with h | h
      · exact HP0O.out h
      · have := HFT.out.size; omega
    have hsp : Srt p'.F := by rw [hpF]; exact HT.out.srt
    have hnp : ∀ y ∈ p'.F, y.key ≠ s := by rw [hpF]; exact HNO0.out
    have HTO := hide (top_any hB3 hn3 hk2 ho64 hpo)
    have HROOM : Hid ((([] : List It).take 0 ++ x :: ([] : List It).drop 0).length < 2 * o - 1) := hide (by simp; omega)
    have HLS : Hid (Srt (([] : List It).take 0 ++ x :: ([] : List It).drop 0)) := hide (by have hq := hsp; rw [hn3.flat] at hq; exact srt_items hq)
    have HNI : Hid (∀ y ∈ ([] : List It).take 0 ++ x :: ([] : List It).drop 0, y.key ≠ s) := hide (by have hq := hnp; rw [hn3.flat] at hq; exact items_no hq)
    have HSRT := hide hsp
    have HNO := hide hnp
    have HOUT := hide hpo
    have HLT : Hid (tb < W3.heap.size) := hide (by have := HFT.out.size; have := f2.size; omega)
    have HFF := hide hpF
    have HFW : Hid (Fr w W3 (fun k => k = tb ∨ d.Y k)) := hide ((HFT.out.trans f2).mono (fun k hk hz => by
      rcases hz with hz | hz
      · exact .inl hz
      · rcases HP0Y.out k hz with h | h
        · exact .inr h
        · omega))
    have HXX : Hid (∀ k, p'.X k → d.X k ∨ w.heap.size ≤ k) := hide (fun k hk => by
      rcases hX2 k hk with h | h
      · exact HP0X.out k h
      · exact .inr (Nat.le_trans HFT.out.size h))
    have HYY : Hid (∀ k, p'.Y k → d.Y k ∨ w.heap.size ≤ k) := hide (fun k hk => by
      rcases hY2 k hk with h | h
      · exact HP0Y.out k h
      · exact .inr (Nat.le_trans HFT.out.size h))
    have hlb3 : (([] : List It).take 0 ++ x :: ([] : List It).drop 0).length ≤ 1048576 := by simp
    obtain ⟨LR, hLR⟩ : ∃ LR, LR = ([] : List It).take 0 ++ x :: ([] : List It).drop 0 := ⟨_, rfl⟩
    rw [← hLR] at HTO HROOM HLS HNI hlb3
    obtain ⟨KR, hKR⟩ : ∃ KR, KR = A ++ d1 :: d2 :: Bk := ⟨_, rfl⟩
    rw [← hKR] at HTO
    obtain ⟨hh, hhh⟩ : ∃ hh, hh = h + 1 := ⟨_, rfl⟩
    rw [← hhh] at HTO
    clear HHA hg2 hF2 hn2 hk2 hAl hdd hX2 hY2 f2 hpF hB3 hn3 hpo hsp hnp HB2 HFT HP0X HP0Y HP0O HP0F HGR HP0L yR htw hLR hKR hhh hlb HNO0 HL0 HNL0 HF1 HDG
    have hlb := hlb3
    clear hlb3
    go_wp2_with fail
    refine HTO.out.mono ?_
    rintro en w3 ⟨r, rl, rk, rfl, hb1, hn1, hk1, hF1, hX1, hY1, f1⟩
    have HFI := hide (find_any hn1.toNodeP HLS.out hlb s)
    have HST0 : Hid (∀ w4 i, Fr w3 w4 (fun _ => False) → FindP LR s i false → InsW o cur tb r.g cnt s D v hh (.pointer (some ⟨r.g, 0, none⟩)) (.int .i64 (i : Int)) w4) := hide (fun w4 i hf hfp => ⟨rlo hh, r, rl, rk, LR, KR, i, rfl, rfl, hn1.fr hf (fun _ _ h => h), hk1.fr hf (fun _ _ _ _ h => h), by rw [hF1]; exact HSRT.out, hfp, by rw [hF1]; exact HNO.out, HROOM.out, hb1.fr hf (fun h => h), fun hx => by
        rcases hX1 tb hx with h | h
        · exact HOUT.out h
        · have := HLT.out; omega, by
        rw [HDD.out, hF1, HFF.out]
        refine (wand_root hb1 HT.out.lt ⟨HT.out.lo2, HT.out.hi64⟩ HT.out.out (fun k hk => ?_) (fun k hk => ?_) hn1.yx ((HFW.out.trans f1).mono (fun k _ hk => hk.elim id (fun e => .inl e))) (fun F hF => hF.srt HT.out.srt)).fr rfl (fun _ h => .inl h) (fun _ h => .inl h) (hf.mono (fun _ _ h => h.elim))
        · rcases hX1 k hk with h | h
          · exact HXX.out k h
          · exact .inr (Nat.le_trans HFW.out.size h)
        · rcases hY1 k hk with h | h
          · exact HYY.out k h
          · exact .inr (Nat.le_trans HFW.out.size h)⟩)
    have hrF := hF1
    clear HTO hb1 hn1 hk1 hX1 hY1 f1 hF1 hrF
    go_wp2_with fail
    refine HFI.out.mono ?_
    rintro en w4 ⟨i, b, rfl, hfp, f2⟩
    obtain rfl : b = false := find_false hfp HNI.out
    have HST := hide (HST0.out w4 i f2 hfp)
    obtain ⟨rg, hrg⟩ : ∃ rg, rg = r.g := ⟨_, rfl⟩
    rw [← hrg] at HST ⊢
    clear HFI hfp f2 HST0 hrg HNI HSRT HNO HROOM HOUT HLT HFF HFW HXX HYY HLS hlb
    go_wp2_with fail
    go_loopw [6, 7] (fun vn vi wr => ∃ m, InsW o cur tb rg cnt s D v m vn vi wr) (fun vn vi wr => least (fun m => InsW o cur tb rg cnt s D v m vn vi wr))
    case atStart => exact ⟨_, HST.out⟩
    case round =>
      rename World => W
      have hm := least_spec hrel
      generalize hmm : least (fun m => InsW o cur tb rg cnt s D v m _ _ W) = m at *
      obtain ⟨lo, p, lv', kv', L', ks', j, rfl, rfl, hN, hK, hsr, hfp, hno, hnf, hTB, hout, hWd⟩ := hm
      have HM := hide hmm
      have HN := hide hN
      have HK := hide hK
      have HSR := hide hsr
      have HFP := hide hfp
      have HNO := hide hno
      have HNF := hide hnf
      have HTB := hide hTB
      have HOUT := hide hout
      have HWD := hide hWd
      have HLA := hide (last_any hN.toNodeP)
      clear hrel hmm hN hK hsr hfp hno hnf hTB hout hWd HST
      go_wp2_with fail
      refine HLA.out.mono ?_
      rintro en W0 ⟨rfl, hww⟩
      rw [hww]
      clear hww HLA
      rcases HK.out.len with ⟨h0, hk0⟩ | ⟨h0, hk0⟩
      · have hdz : decide (ks'.length = 0) = true := decide_eq_true hk0
        rw [hdz]
        clear hdz
        have hkz : ks' = [] := List.eq_nil_of_length_eq_zero hk0
        have hFL : p.F = L' := by have hq := HN.out.flat; rw [hkz] at hq; exact hq
        have hlen := HNF.out
        obtain ⟨n, hn⟩ : ∃ n, L'.length = n := ⟨_, rfl⟩
        have hjn : j ≤ n := by rw [← hn]; exact HFP.out.1
        have rA := HN.out.toNodeP.raw
        obtain ⟨la, lc, ka, kc', rfl, rfl⟩ := rA.shape
        have x1 := rA.cells.2.1
        rw [hn] at x1
        obtain ⟨VB, hVB⟩ : ∃ VB, VB = W.heap.size := ⟨_, rfl⟩
        obtain ⟨Wa, hWa⟩ : ∃ Wa, Wa = W.alloc (.cells #[.string s, .int .i64 v] 106) := ⟨_, rfl⟩
        have Ga : Fr W Wa (fun _ => False) := by rw [hWa]; exact Fr.alloc _ _ _
        have ba : Wa.heap[VB]? = some (.cells [Value.string s, .int .i64 v].toArray 106 (0, 0)) := by rw [hWa, hVB]; exact heap_alloc_new W _
        have rAa := rA.fr Ga (fun _ _ h => h)
        have HIN := hide (insertI (w := Wa) (.slice la n lc) n (encI L') (by have h := rAa.row; rw [hn] at h; exact h) (encI_one L') (by omega) j hjn VB [.string s, .int .i64 v] ba rfl (fun u hu => by simp at hu; rcases hu with rfl | rfl <;> rfl) (fun h => by have := rA.lt VB (rA.ins VB (.inr (.inl (by rw [hn]; exact h)))); omega))
        have HVB := hide hVB
        have HWa := hide hWa
        have HNL := hide hn
        have HKZ := hide hkz
        have HFL := hide hFL
        have hnb : n ≤ 127 := by omega
        clear hkz hFL hlen hn rA hVB hWa ba hk0
        go_wp2_with (rw [← HWa.out, ← HVB.out]; clear HWa)
        refine HIN.out.mono ?_
        rintro en V5 ⟨v5, rfl, hr5, hn5, g5⟩
        obtain ⟨a5, c5, rfl⟩ := shape_n hr5
        obtain ⟨L5, hL5⟩ : ∃ L5, L5 = L'.take j ++ (⟨s, v⟩ : It) :: L'.drop j := ⟨_, rfl⟩
        have hl5 : L5.length = n + 1 := by rw [hL5, List.length_append, List.length_cons, List.length_take, List.length_drop, HNL.out]; omega
        have he5 : (encI L').take (j * 2) ++ [.string s, .int .i64 v] ++ (encI L').drop (j * 2) = encI L5 := by rw [encI_take, encI_drop, hL5, encI_append]; simp [encI]
        rw [he5] at hr5
        obtain ⟨n1, hn1'⟩ : ∃ n1, n1 = n + 1 := ⟨_, rfl⟩
        rw [← hn1'] at hr5 hl5 hn5 ⊢
        have hset := rAa.setL (w1 := V5) (lv' := .slice a5 n1 c5) (L' := L5) (by rw [hl5]; exact hr5) (by have h := g5; rw [← HNL.out] at h; exact h) (by have h := hn5; rw [← HNL.out] at h; exact h)
        obtain ⟨W5, hW5⟩ : ∃ W5, W5 = V5.setCell ⟨p.g, 1, none⟩ (.slice a5 n1 c5) := ⟨_, rfl⟩
        rw [← hW5] at hset
        obtain ⟨rA6, F6, z1, z2⟩ := hset
        rw [HNL.out] at z1
        have hNp := HN.out
        have hG := Ga.size
        have rA7 : Raw W5 p.g cur (.slice a5 n1 c5) (.slice ka (ks'.map Kd.g).length kc') L5 (([] : List Kd).map Kd.g) (fun k => SetOf p.g (.slice la L'.length lc) (.slice ka (ks'.map Kd.g).length kc') k ∨ (Wa.heap.size ≤ k ∧ k < W5.heap.size)) := by have hq := rA6; rw [HKZ.out] at hq ⊢; exact hq
        have hnew := rA7.node (fun x hx => by simp at hx) (fun x hx => by simp at hx) (fun i j x y hx => by simp at hx) L5
        have hins : InsR s v p.F L5 := by
          rw [HFL.out]
          have hsL : Srt L' := by rw [← HFL.out]; exact HSR.out
          exact ⟨L'.take j, L'.drop j, (List.take_append_drop j L').symm, hL5, HFP.out.below, HFP.out.above hsL⟩
        have HRES : Hid (D W5) := hide (HWD.out W5 ⟨p.g, _, _, L5⟩ rfl (sub_iff.2 ⟨_, _, _, _, _, ⟨hnew, by have := hNp.low; have := HNL.out; omega, by have := HNF.out; have := HNL.out; omega, rfl⟩, by rw [h0]; rfl⟩) hins (fun k hk => by
          rcases hk with (hk | hk) | ⟨x, hx, _⟩
          · exact .inl (hNp.setX.1 k hk)
          · exact .inr (by omega)
          · simp at hx) (fun k hk => by
          rcases hk with (hk | hk) | ⟨x, hx, _⟩
          · exact .inl (hNp.setX.2.1 rfl k hk)
          · exact .inr (by omega)
          · simp at hx) (((Ga.mono (Y := p.Y) (fun _ _ h => h.elim)).two (F6.mono (fun k _ h => hNp.setX.2.1 rfl k h)))))
        have HW5 := hide hW5
        clear HIN hr5 hn5 g5 hL5 hl5 he5 hn1' hW5 rA6 F6 hNp hG rA7 hnew hins rAa Ga
        go_wp2_with (rw [← HW5.out]; clear HW5)
        go_end0
        exact ⟨rfl, HRES.out⟩
      · have hdz : decide (ks'.length = 0) = false := decide_eq_false (by omega)
        rw [hdz]
        clear hdz
        obtain ⟨h', rfl⟩ : ∃ h', m = h' + 1 := ⟨m - 1, by omega⟩
        have hsr := HSR.out
        rw [HN.out.flat] at hsr
        obtain ⟨e, P, Q, hie, hwe, hwq, hP, hQ, _⟩ := node_way HK.out.1 HFP.out hsr
        have hQ := hQ rfl
        rw [hwe] at hsr
        obtain ⟨te, le, ke, Le, kse, hNe, hKe⟩ := sub_iff.1 (HK.out.2 e (List.mem_of_getElem? hie))
        have hpF : p.F = P ++ e.F ++ Q := HN.out.flat.trans hwe
        have HSE : Hid (Srt e.F) := hide hsr.app.1.app.2.1
        have HNE : Hid (∀ x ∈ e.F, x.key ≠ s) := hide (fun x hx => HNO.out x (by rw [hpF]; exact List.mem_append_left _ (List.mem_append_right _ hx)))
        have HWY : Hid (∀ q : Kd, InsR s v e.F q.F → InsR s v p.F (weave ((ks'.set j q).map Kd.F) L')) := hide (fun q hq => by rw [hwq q, hpF]; exact hq.within hP hQ)
        have HIE := hide hie
        obtain ⟨x0, x1, x2⟩ := HN.out.cells
        obtain ⟨la, lc, ka, kc', rfl, rfl⟩ := HN.out.shape
        obtain ⟨gk, rfl, cv⟩ := row_cell HN.out.krow (show (ptrs ks')[j]? = some (.pointer (some ⟨e.g, 0, none⟩)) by unfold ptrs; rw [List.getElem?_map, hie]; rfl)
        obtain ⟨m, hmE⟩ : ∃ m, ks'.length = m := ⟨_, rfl⟩
        have hjm : j < m := by rw [← hmE]; exact (List.getElem?_eq_some_iff.1 hie).1
        have hmb : m ≤ 128 := by have := HN.out.high; omega
        rw [hmE] at x2
        obtain ⟨y0, y1, _, _⟩ := HTB.out.cells
        have HNEV := hide hNe
        have HKEV := hide hKe
        have HME := hide hmE
        clear hsr hie hwe hwq hP hQ hpF hNe hKe hmE hk0 x0 x1
        go_wp2_with fail
        refine wp_region_K (fun z => decide (z < 11)) (fun U : World => Fr W.drew U (fun _ => False)) (by kernel_rfl) ?_
        obtain ⟨Wd, hWd⟩ : ∃ Wd, Wd = W.drew := ⟨_, rfl⟩
        have G6 : Fr W Wd (fun _ => False) := by rw [hWd]; exact Fr.drew _ _
        rw [← hWd]
        clear hWd
        have hS : (fun U : World => Fr Wd U (fun _ => False)) Wd := Fr.refl _ _
        have hSx : ∀ V, Fr Wd V (fun _ => False) → V.cell? ⟨tb, 0, none⟩ = some (.int .i64 (o : Int)) ∧ V.cell? ⟨tb, 1, none⟩ = some (.int .i64 cnt) ∧ V.cell? ⟨p.g, 2, none⟩ = some (.slice (some ⟨gk, 0, none⟩) m kc') ∧ V.cell? ⟨gk, j, none⟩ = some (.pointer (some ⟨e.g, 0, none⟩)) ∧ True := fun V hV => by
          have hd := G6.two hV
          exact ⟨hd.cell (fun h => h) y0, hd.cell (fun h => h) y1, hd.cell (fun h => h) x2, hd.cell (fun h => h) cv, trivial⟩
        clear y0 y1 x2 cv
        refine wpAnyK_takeTo 0 (some 49) (.pointer (some ⟨tb, 0, none⟩)) [1, 2, 3, 11] rfl rfl (by kernel_rfl) (by kernel_rfl) (by kernel_rfl) (by kernel_rfl) (fun _ _ _ h => h) hS (Or.inl ⟨rfl, fun w1 hw1 => by obtain ⟨q0, q1, q2, q3, _⟩ := hSx _ hw1; go_simp⟩) ?_
        simp only [Act.put, List.setIfInBounds_toArray, List.set_cons_zero, List.set_cons_succ]
        refine wpAnyK_takeTo 1 (some 50) (.pointer (some ⟨tb, 0, none⟩)) [2, 3, 11] rfl rfl (by kernel_rfl) (by kernel_rfl) (by kernel_rfl) (by kernel_rfl) (fun _ _ _ h => h) hS (Or.inl ⟨rfl, fun w1 hw1 => by obtain ⟨q0, q1, q2, q3, _⟩ := hSx _ hw1; go_simp⟩) ?_
        simp only [Act.put, List.setIfInBounds_toArray, List.set_cons_zero, List.set_cons_succ]
        refine wpAnyK_takeTo 2 (some 51) (.pointer (some ⟨tb, 0, none⟩)) [3, 11] rfl rfl (by kernel_rfl) (by kernel_rfl) (by kernel_rfl) (by kernel_rfl) (fun _ _ _ h => h) hS (Or.inl ⟨rfl, fun w1 hw1 => by obtain ⟨q0, q1, q2, q3, _⟩ := hSx _ hw1; go_simp⟩) ?_
        simp only [Act.put, List.setIfInBounds_toArray, List.set_cons_zero, List.set_cons_succ]
        refine wpAnyK_takeTo 3 (some 52) (.agg #[.int .i64 (o : Int), .int .i64 cnt]) [11] rfl rfl (by kernel_rfl) (by kernel_rfl) (by kernel_rfl) (by kernel_rfl) (fun _ _ _ h => h) hS (Or.inl ⟨rfl, fun w1 hw1 => by obtain ⟨q0, q1, q2, q3, _⟩ := hSx _ hw1; go_simp⟩) ?_
        simp only [Act.put, List.setIfInBounds_toArray, List.set_cons_zero, List.set_cons_succ]
        refine wpAnyK_takeTo 4 (some 53) (.pointer (some ⟨p.g, 0, none⟩)) [5, 6, 7, 9, 10, 11] rfl rfl (by kernel_rfl) (by kernel_rfl) (by kernel_rfl) (by kernel_rfl) (fun _ _ _ h => h) hS (Or.inl ⟨rfl, fun w1 hw1 => by obtain ⟨q0, q1, q2, q3, _⟩ := hSx _ hw1; go_simp⟩) ?_
        simp only [Act.put, List.setIfInBounds_toArray, List.set_cons_zero, List.set_cons_succ]
        refine wpAnyK_takeTo 5 (some 54) (.pointer (some ⟨p.g, 0, none⟩)) [6, 7, 9, 10, 11] rfl rfl (by kernel_rfl) (by kernel_rfl) (by kernel_rfl) (by kernel_rfl) (fun _ _ _ h => h) hS (Or.inl ⟨rfl, fun w1 hw1 => by obtain ⟨q0, q1, q2, q3, _⟩ := hSx _ hw1; go_simp⟩) ?_
        simp only [Act.put, List.setIfInBounds_toArray, List.set_cons_zero, List.set_cons_succ]
        refine wpAnyK_takeTo 6 (some 55) (.pointer (some ⟨p.g, 2, none⟩)) [7, 9, 10, 11] rfl rfl (by kernel_rfl) (by kernel_rfl) (by kernel_rfl) (by kernel_rfl) (fun _ _ _ h => h) hS (Or.inl ⟨rfl, fun w1 hw1 => by obtain ⟨q0, q1, q2, q3, _⟩ := hSx _ hw1; go_simp⟩) ?_
        simp only [Act.put, List.setIfInBounds_toArray, List.set_cons_zero, List.set_cons_succ]
        refine wpAnyK_takeTo 7 (some 56) (.slice (some ⟨gk, 0, none⟩) m kc') [9, 10, 11] rfl rfl (by kernel_rfl) (by kernel_rfl) (by kernel_rfl) (by kernel_rfl) (fun _ _ _ h => h) hS (Or.inl ⟨rfl, fun w1 hw1 => by obtain ⟨q0, q1, q2, q3, _⟩ := hSx _ hw1; go_simp⟩) ?_
        simp only [Act.put, List.setIfInBounds_toArray, List.set_cons_zero, List.set_cons_succ]
        refine wpAnyK_takeTo 8 (some 57) (.int .i64 (j : Int)) [9, 10, 11] rfl rfl (by kernel_rfl) (by kernel_rfl) (by kernel_rfl) (by kernel_rfl) (fun _ _ _ h => h) hS (Or.inl ⟨rfl, fun w1 hw1 => by obtain ⟨q0, q1, q2, q3, _⟩ := hSx _ hw1; go_simp⟩) ?_
        simp only [Act.put, List.setIfInBounds_toArray, List.set_cons_zero, List.set_cons_succ]
        refine wpAnyK_takeTo 9 (some 58) (.pointer (some ⟨gk, j, none⟩)) [10, 11] rfl rfl (by kernel_rfl) (by kernel_rfl) (by kernel_rfl) (by kernel_rfl) (fun _ _ _ h => h) hS (Or.inl ⟨rfl, fun w1 hw1 => by obtain ⟨q0, q1, q2, q3, _⟩ := hSx _ hw1; go_simp⟩) ?_
        simp only [Act.put, List.setIfInBounds_toArray, List.set_cons_zero, List.set_cons_succ]
        refine wpAnyK_takeTo 10 (some 59) (.pointer (some ⟨e.g, 0, none⟩)) [11] rfl rfl (by kernel_rfl) (by kernel_rfl) (by kernel_rfl) (by kernel_rfl) (fun _ _ _ h => h) hS (Or.inl ⟨rfl, fun w1 hw1 => by obtain ⟨q0, q1, q2, q3, _⟩ := hSx _ hw1; go_simp⟩) ?_
        simp only [Act.put, List.setIfInBounds_toArray, List.set_cons_zero, List.set_cons_succ]
        refine wpAnyK_one (i := 11) (by kernel_rfl) rfl rfl ?_
        refine wp_call_to (some 60) rfl 52 #[.agg #[.int .i64 (o : Int), .int .i64 cnt], .pointer (some ⟨e.g, 0, none⟩)] (by go_simp) (full_any (HNEV.out.toNodeP.fr G6 (fun _ _ h => h)) o (by omega) ho64 cnt) ?_
        rintro en W1 ⟨rfl, f1⟩
        refine ⟨_, rfl, fun h => by simp at h, ?_⟩
        simp only [Act.put, List.setIfInBounds_toArray, List.set_cons_zero, List.set_cons_succ]
        refine wpAnyK_done (by kernel_rfl) ?_ _
        have F1 := G6.two f1
        replace HN := hide (HN.out.fr F1 (fun _ _ h => h))
        replace HK := hide (HK.out.fr F1 (fun _ _ _ _ h => h))
        replace HTB := hide (HTB.out.fr F1 (fun h => h))
        replace HWD := hide (HWD.out.fr rfl (fun _ h => .inl h) (fun _ h => .inl h) (F1.mono (fun _ _ h => h.elim)))
        replace HNEV := hide (HNEV.out.fr F1 (fun _ _ h => h))
        replace HKEV := hide (HKEV.out.fr F1 (fun _ _ _ _ h => h))
        clear hS hSx G6 f1 F1
        by_cases hfu : Le.length = 2 * o - 1
        · have hfd : decide (Le.length = 2 * o - 1) = true := decide_eq_true hfu
          rw [hfd]
          clear hfd
          have HHA := hide (halve_any HTB.out HOUT.out HN.out HK.out HIE.out HNEV.out HKEV.out HNF.out hfu ho2 ho64)
          clear HNEV HKEV hfu
          go_wp2_with fail
          refine HHA.out.mono ?_
          rintro en W2 ⟨p2, l2, k2, x, A, Bk, d1, d2, rfl, hg2, hF2, hn2, hk2, hAl, hdd, hX2, hY2, f2⟩
          have hs2 : Srt p2.F := by rw [hF2]; exact HSR.out
          have hno2 : ∀ x ∈ p2.F, x.key ≠ s := by rw [hF2]; exact HNO.out
          have hL2 : Srt (L'.take j ++ x :: L'.drop j) := by have hq := hs2; rw [hn2.flat] at hq; exact srt_items hq
          have hn2no : ∀ y ∈ L'.take j ++ x :: L'.drop j, y.key ≠ s := by have hq := hno2; rw [hn2.flat] at hq; exact items_no hq
          have HFI := hide (find_any hn2.toNodeP hL2 (by have := hn2.high; omega) s)
          have HTB2 := hide (HTB.out.fr f2 (fun h => HOUT.out (HN.out.yx tb h)))
          have HOUT2 : Hid (¬ p2.X tb) := hide (fun hx => by
            rcases hX2 tb hx with h | h
            · exact HOUT.out h
            · have := (Array.getElem?_eq_some_iff.1 HTB.out.box).1; omega)
          have HWD2 : Hid (Wand o cur (h' + 1) lo W2 p2 (InsR s v p2.F) D) := hide (by
            have hq := HWD.out.fr hg2 hX2 hY2 f2
            rw [hF2]; exact hq)
          have HN2 := hide hn2
          have HK2 := hide hk2
          have HS2 := hide hs2
          have HNO2 := hide hno2
          have HNI := hide hn2no
          have HAL := hide hAl
          have HDD := hide hdd
          have HG2 := hide hg2
          have HFPO := hide HFP.out
          rw [← hg2]
          clear HHA HTB HOUT HWD HN HK HSR HFP HNO HNF hn2 hk2 hs2 hno2 hL2 hn2no hAl hdd hg2 hF2 hX2 hY2 f2 HIE HSE HNE HWY HME hjm hmb
          go_wp2_with fail
          refine HFI.out.mono ?_
          rintro en W2' ⟨i2, b2, rfl, hfp2, f3⟩
          obtain rfl : b2 = false := find_false hfp2 HNI.out
          have hcase := find_more HFPO.out hfp2
          have hs3 := HS2.out
          rw [HN2.out.flat] at hs3
          obtain ⟨e', P', Q', hie', hwe', hwq', hP', hQ', _⟩ := node_way HK2.out.1 hfp2 hs3
          have hQ' := hQ' rfl
          rw [hwe'] at hs3
          have hpF' : p2.F = P' ++ e'.F ++ Q' := HN2.out.flat.trans hwe'
          have hem : e' ∈ [d1, d2] := by
            rcases hcase with rfl | rfl
            · rw [List.getElem?_append_right (by rw [HAL.out]; exact Nat.le_refl _), HAL.out, Nat.sub_self] at hie'
              simp at hie'; simp [hie']
            · rw [List.getElem?_append_right (by rw [HAL.out]; omega), HAL.out, Nat.add_sub_cancel_left] at hie'
              simp at hie'; simp [hie']
          obtain ⟨te', le', ke', Le', kse', hNe0, hKe0, hll0⟩ := HDD.out e' hem
          have hll' : Le'.length < 2 * o - 1 := by omega
          have HSE : Hid (Srt e'.F) := hide hs3.app.1.app.2.1
          have HNE : Hid (∀ x ∈ e'.F, x.key ≠ s) := hide (fun x hx => HNO2.out x (by rw [hpF']; exact List.mem_append_left _ (List.mem_append_right _ hx)))
          have HWY : Hid (∀ q : Kd, InsR s v e'.F q.F → InsR s v p2.F (weave (((A ++ d1 :: d2 :: Bk).set i2 q).map Kd.F) (L'.take j ++ x :: L'.drop j))) := hide (fun q hq => by rw [hwq' q, hpF']; exact hq.within hP' hQ')
          have HIE := hide hie'
          have hNe := hNe0.fr f3 (fun _ _ h => h)
          have hKe := hKe0.fr f3 (fun _ _ _ _ h => h)
          have HN := hide (HN2.out.fr f3 (fun _ _ h => h))
          have HK := hide (HK2.out.fr f3 (fun _ _ _ _ h => h))
          have HTB := hide (HTB2.out.fr f3 (fun h => h))
          have HOUT := hide HOUT2.out
          have HWD := hide (HWD2.out.fr rfl (fun _ h => .inl h) (fun _ h => .inl h) (f3.mono (fun _ _ h => h.elim)))
          clear HFI hcase hs3 hie' hwe' hwq' hP' hQ' hpF' hem hNe0 hKe0 hll0 f3 hfp2 HN2 HK2 HTB2 HOUT2 HWD2 HS2 HNO2 HNI HAL HDD HG2 HFPO
          go_wp2_with fail
          have HKD := hide (kid_any HTB.out HN.out HK.out HIE.out hNe hKe ho64)
          have hSL : Srt Le' := by have hq := HSE.out; rw [hNe.flat] at hq; exact srt_items hq
          have hleb : Le'.length ≤ 1048576 := by have := hNe.high; omega
          have HNOE : Hid (∀ x ∈ Le', x.key ≠ s) := hide (by have hq := HNE.out; rw [hNe.flat] at hq; exact items_no hq)
          have HLE := hide hSL
          have HLL := hide hll'
          clear hNe hKe hSL hll'
          go_wp2_with fail
          refine HKD.out.mono ?_
          rintro en W3 ⟨p1, d', l1, k1, rfl, hg1, hF1, hn1, hk1, hnd, hkd, hFd, hX1, hY1, hXd, hYd, f1⟩
          have hkl : i2 < (A ++ d1 :: d2 :: Bk).length := (List.getElem?_eq_some_iff.1 HIE.out).1
          have hi1 : ((A ++ d1 :: d2 :: Bk).set i2 d')[i2]? = some d' := by rw [List.getElem?_set, if_pos rfl, if_pos hkl]
          have hfy : Fr W2' W3 p2.Y := f1.mono (fun k _ h => HN.out.ky rfl k h)
          have hWD1 : Wand o cur h' (o - 1) W3 d' (InsR s v d'.F) D := wand_down HWD.out hn1 hk1 hi1 hg1 hX1 hY1 hfy (fun q hq => by
            rw [List.set_set]
            exact HWY.out q (by rw [← hFd]; exact hq))
          have htb1 := HTB.out.fr f1 (fun h => HOUT.out (HN.out.kx tb h))
          have hdo : ¬ d'.X tb := fun hx => by
            rcases hXd tb hx with h | h
            · exact HOUT.out (HN.out.sx e' (List.mem_of_getElem? HIE.out) tb h)
            · have := (Array.getElem?_eq_some_iff.1 HTB.out.box).1; omega
          have HFI2 := hide (find_any hnd.toNodeP HLE.out hleb s)
          have HND := hide hnd
          have HKD2 := hide hkd
          have HWD1 := hide hWD1
          have HTB1 := hide htb1
          have HDO := hide hdo
          have HFD := hide hFd
          clear HKD hg1 hF1 hn1 hk1 hnd hkd hFd hX1 hY1 hXd hYd f1 hkl hi1 hfy hWD1 htb1 hdo HN HK HTB HOUT HWD HWY HIE
          go_wp2_with fail
          refine HFI2.out.mono ?_
          rintro en W4 ⟨j2, b2, rfl, hfp2, f2⟩
          obtain rfl : b2 = false := find_false hfp2 HNOE.out
          have HRES : Hid (InsW o cur tb rg cnt s D v h' (.pointer (some ⟨d'.g, 0, none⟩)) (.int .i64 (j2 : Int)) W4) := hide ⟨o - 1, d', l1, k1, Le', kse', j2, rfl, rfl, HND.out.fr f2 (fun _ _ h => h), HKD2.out.fr f2 (fun _ _ _ _ h => h), by rw [HFD.out]; exact HSE.out, hfp2, by rw [HFD.out]; exact HNE.out, HLL.out, HTB1.out.fr f2 (fun h => h), HDO.out, HWD1.out.fr rfl (fun _ h => .inl h) (fun _ h => .inl h) (f2.mono (fun _ _ h => h.elim))⟩
          clear HFI2 hfp2 f2 HND HKD2 HWD1 HTB1 HDO HFD HSE HNE HLE HNOE HLL
          go_wp2
          go_roundw
          case rel => exact ⟨h', HRES.out⟩
          case measure =>
            refine Nat.lt_of_le_of_lt (least_le HRES.out) ?_
            rw [HM.out]; omega
        · have hfd : decide (Le.length = 2 * o - 1) = false := decide_eq_false hfu
          rw [hfd]
          clear hfd
          have hll : Le.length < 2 * o - 1 := by have := HNEV.out.high; omega
          have hNe := HNEV.out
          have hKe := HKEV.out
          clear HNEV HKEV HSR HFP HNO HNF hfu hjm hmb HME
          have HKD := hide (kid_any HTB.out HN.out HK.out HIE.out hNe hKe ho64)
          have hSL : Srt Le := by have hq := HSE.out; rw [hNe.flat] at hq; exact srt_items hq
          have hleb : Le.length ≤ 1048576 := by have := hNe.high; omega
          have HNOE : Hid (∀ x ∈ Le, x.key ≠ s) := hide (by have hq := HNE.out; rw [hNe.flat] at hq; exact items_no hq)
          have HLE := hide hSL
          have HLL := hide hll
          clear hNe hKe hSL hll
          go_wp2_with fail
          refine HKD.out.mono ?_
          rintro en W3 ⟨p1, d', l1, k1, rfl, hg1, hF1, hn1, hk1, hnd, hkd, hFd, hX1, hY1, hXd, hYd, f1⟩
          have hkl : j < ks'.length := (List.getElem?_eq_some_iff.1 HIE.out).1
          have hi1 : (ks'.set j d')[j]? = some d' := by rw [List.getElem?_set, if_pos rfl, if_pos hkl]
          have hfy : Fr W1 W3 p.Y := f1.mono (fun k _ h => HN.out.ky rfl k h)
          have hWD1 : Wand o cur h' (o - 1) W3 d' (InsR s v d'.F) D := wand_down HWD.out hn1 hk1 hi1 hg1 hX1 hY1 hfy (fun q hq => by
            rw [List.set_set]
            exact HWY.out q (by rw [← hFd]; exact hq))
          have htb1 := HTB.out.fr f1 (fun h => HOUT.out (HN.out.kx tb h))
          have hdo : ¬ d'.X tb := fun hx => by
            rcases hXd tb hx with h | h
            · exact HOUT.out (HN.out.sx e (List.mem_of_getElem? HIE.out) tb h)
            · have := (Array.getElem?_eq_some_iff.1 HTB.out.box).1; omega
          have HFI2 := hide (find_any hnd.toNodeP HLE.out hleb s)
          have HND := hide hnd
          have HKD2 := hide hkd
          have HWD1 := hide hWD1
          have HTB1 := hide htb1
          have HDO := hide hdo
          have HFD := hide hFd
          clear HKD hg1 hF1 hn1 hk1 hnd hkd hFd hX1 hY1 hXd hYd f1 hkl hi1 hfy hWD1 htb1 hdo HN HK HTB HOUT HWD HWY HIE
          go_wp2_with fail
          refine HFI2.out.mono ?_
          rintro en W4 ⟨j2, b2, rfl, hfp2, f2⟩
          obtain rfl : b2 = false := find_false hfp2 HNOE.out
          have HRES : Hid (InsW o cur tb rg cnt s D v h' (.pointer (some ⟨d'.g, 0, none⟩)) (.int .i64 (j2 : Int)) W4) := hide ⟨o - 1, d', l1, k1, Le, kse, j2, rfl, rfl, HND.out.fr f2 (fun _ _ h => h), HKD2.out.fr f2 (fun _ _ _ _ h => h), by rw [HFD.out]; exact HSE.out, hfp2, by rw [HFD.out]; exact HNE.out, HLL.out, HTB1.out.fr f2 (fun h => h), HDO.out, HWD1.out.fr rfl (fun _ h => .inl h) (fun _ h => .inl h) (f2.mono (fun _ _ h => h.elim))⟩
          clear HFI2 hfp2 f2 HND HKD2 HWD1 HTB1 HDO HFD HSE HNE HLE HNOE HLL
          go_wp2
          go_roundw
          case rel => exact ⟨h', HRES.out⟩
          case measure =>
            refine Nat.lt_of_le_of_lt (least_le HRES.out) ?_
            rw [HM.out]; omega
  · have hfd : decide (L.length = 2 * o - 1) = false := decide_eq_false hfu
    rw [hfd]
    clear hfd
    have hTw := HT.out.fr HF1.out (fun h => h) (fun _ _ h => h)
    have HTO := hide (top_any hTw.box (HN0.out.fr HF1.out (fun _ _ h => h)) (HK0.out.fr HF1.out (fun _ _ _ _ h => h)) ho64 HT.out.out)
    have HROOM : Hid (L.length < 2 * o - 1) := hide (by have := HN0.out.high; omega)
    have HSRT := hide HT.out.srt
    have HNO := hide HNO0.out
    have HOUT := hide HT.out.out
    have HLT : Hid (tb < w1.heap.size) := hide hTw.lt
    have HFW : Hid (Fr w w1 (fun k => k = tb ∨ d.Y k)) := hide (HF1.out.mono (fun _ _ h => h.elim))
    have HXX : Hid (∀ k, d.X k → d.X k ∨ w.heap.size ≤ k) := hide (fun _ h => .inl h)
    have HYY : Hid (∀ k, d.Y k → d.Y k ∨ w.heap.size ≤ k) := hide (fun _ h => .inl h)
    have HNI := hide HNL0.out
    have HLS := hide HL0.out
    clear hTw hfu HN0 HK0 HNO0 HL0 HNL0 HF1 HDG
    go_wp2_with fail
    refine HTO.out.mono ?_
    rintro en w3 ⟨r, rl, rk, rfl, hb1, hn1, hk1, hF1, hX1, hY1, f1⟩
    have HFI := hide (find_any hn1.toNodeP HLS.out hlb s)
    have HST0 : Hid (∀ w4 i, Fr w3 w4 (fun _ => False) → FindP L s i false → InsW o cur tb r.g cnt s D v h (.pointer (some ⟨r.g, 0, none⟩)) (.int .i64 (i : Int)) w4) := hide (fun w4 i hf hfp => ⟨rlo h, r, rl, rk, L, ks, i, rfl, rfl, hn1.fr hf (fun _ _ h => h), hk1.fr hf (fun _ _ _ _ h => h), by rw [hF1]; exact HSRT.out, hfp, by rw [hF1]; exact HNO.out, HROOM.out, hb1.fr hf (fun h => h), fun hx => by
        rcases hX1 tb hx with h | h
        · exact HOUT.out h
        · have := HLT.out; omega, by
        rw [HDD.out, hF1]
        refine (wand_root hb1 HT.out.lt ⟨HT.out.lo2, HT.out.hi64⟩ HT.out.out (fun k hk => ?_) (fun k hk => ?_) hn1.yx ((HFW.out.trans f1).mono (fun k _ hk => hk.elim id (fun e => .inl e))) (fun F hF => hF.srt HT.out.srt)).fr rfl (fun _ h => .inl h) (fun _ h => .inl h) (hf.mono (fun _ _ h => h.elim))
        · rcases hX1 k hk with h | h
          · exact HXX.out k h
          · exact .inr (Nat.le_trans HFW.out.size h)
        · rcases hY1 k hk with h | h
          · exact HYY.out k h
          · exact .inr (Nat.le_trans HFW.out.size h)⟩)
    have hrF := hF1
    clear HTO hb1 hn1 hk1 hX1 hY1 f1 hF1 hrF
    go_wp2_with fail
    refine HFI.out.mono ?_
    rintro en w4 ⟨i, b, rfl, hfp, f2⟩
    obtain rfl : b = false := find_false hfp HNI.out
    have HST := hide (HST0.out w4 i f2 hfp)
    obtain ⟨rg, hrg⟩ : ∃ rg, rg = r.g := ⟨_, rfl⟩
    rw [← hrg] at HST ⊢
    clear HFI hfp f2 HST0 hrg HNI HSRT HNO HROOM HOUT HLT HFW HXX HYY HLS hlb
    go_wp2_with fail
    go_loopw [6, 7] (fun vn vi wr => ∃ m, InsW o cur tb rg cnt s D v m vn vi wr) (fun vn vi wr => least (fun m => InsW o cur tb rg cnt s D v m vn vi wr))
    case atStart => exact ⟨_, HST.out⟩
    case round =>
      rename World => W
      have hm := least_spec hrel
      generalize hmm : least (fun m => InsW o cur tb rg cnt s D v m _ _ W) = m at *
      obtain ⟨lo, p, lv', kv', L', ks', j, rfl, rfl, hN, hK, hsr, hfp, hno, hnf, hTB, hout, hWd⟩ := hm
      have HM := hide hmm
      have HN := hide hN
      have HK := hide hK
      have HSR := hide hsr
      have HFP := hide hfp
      have HNO := hide hno
      have HNF := hide hnf
      have HTB := hide hTB
      have HOUT := hide hout
      have HWD := hide hWd
      have HLA := hide (last_any hN.toNodeP)
      clear hrel hmm hN hK hsr hfp hno hnf hTB hout hWd HST
      go_wp2_with fail
      refine HLA.out.mono ?_
      rintro en W0 ⟨rfl, hww⟩
      rw [hww]
      clear hww HLA
      rcases HK.out.len with ⟨h0, hk0⟩ | ⟨h0, hk0⟩
      · have hdz : decide (ks'.length = 0) = true := decide_eq_true hk0
        rw [hdz]
        clear hdz
        have hkz : ks' = [] := List.eq_nil_of_length_eq_zero hk0
        have hFL : p.F = L' := by have hq := HN.out.flat; rw [hkz] at hq; exact hq
        have hlen := HNF.out
        obtain ⟨n, hn⟩ : ∃ n, L'.length = n := ⟨_, rfl⟩
        have hjn : j ≤ n := by rw [← hn]; exact HFP.out.1
        have rA := HN.out.toNodeP.raw
        obtain ⟨la, lc, ka, kc', rfl, rfl⟩ := rA.shape
        have x1 := rA.cells.2.1
        rw [hn] at x1
        obtain ⟨VB, hVB⟩ : ∃ VB, VB = W.heap.size := ⟨_, rfl⟩
        obtain ⟨Wa, hWa⟩ : ∃ Wa, Wa = W.alloc (.cells #[.string s, .int .i64 v] 106) := ⟨_, rfl⟩
        have Ga : Fr W Wa (fun _ => False) := by rw [hWa]; exact Fr.alloc _ _ _
        have ba : Wa.heap[VB]? = some (.cells [Value.string s, .int .i64 v].toArray 106 (0, 0)) := by rw [hWa, hVB]; exact heap_alloc_new W _
        have rAa := rA.fr Ga (fun _ _ h => h)
        have HIN := hide (insertI (w := Wa) (.slice la n lc) n (encI L') (by have h := rAa.row; rw [hn] at h; exact h) (encI_one L') (by omega) j hjn VB [.string s, .int .i64 v] ba rfl (fun u hu => by simp at hu; rcases hu with rfl | rfl <;> rfl) (fun h => by have := rA.lt VB (rA.ins VB (.inr (.inl (by rw [hn]; exact h)))); omega))
        have HVB := hide hVB
        have HWa := hide hWa
        have HNL := hide hn
        have HKZ := hide hkz
        have HFL := hide hFL
        have hnb : n ≤ 127 := by omega
        clear hkz hFL hlen hn rA hVB hWa ba hk0
        go_wp2_with (rw [← HWa.out, ← HVB.out]; clear HWa)
        refine HIN.out.mono ?_
        rintro en V5 ⟨v5, rfl, hr5, hn5, g5⟩
        obtain ⟨a5, c5, rfl⟩ := shape_n hr5
        obtain ⟨L5, hL5⟩ : ∃ L5, L5 = L'.take j ++ (⟨s, v⟩ : It) :: L'.drop j := ⟨_, rfl⟩
        have hl5 : L5.length = n + 1 := by rw [hL5, List.length_append, List.length_cons, List.length_take, List.length_drop, HNL.out]; omega
        have he5 : (encI L').take (j * 2) ++ [.string s, .int .i64 v] ++ (encI L').drop (j * 2) = encI L5 := by rw [encI_take, encI_drop, hL5, encI_append]; simp [encI]
        rw [he5] at hr5
        obtain ⟨n1, hn1'⟩ : ∃ n1, n1 = n + 1 := ⟨_, rfl⟩
        rw [← hn1'] at hr5 hl5 hn5 ⊢
        have hset := rAa.setL (w1 := V5) (lv' := .slice a5 n1 c5) (L' := L5) (by rw [hl5]; exact hr5) (by have h := g5; rw [← HNL.out] at h; exact h) (by have h := hn5; rw [← HNL.out] at h; exact h)
        obtain ⟨W5, hW5⟩ : ∃ W5, W5 = V5.setCell ⟨p.g, 1, none⟩ (.slice a5 n1 c5) := ⟨_, rfl⟩
        rw [← hW5] at hset
        obtain ⟨rA6, F6, z1, z2⟩ := hset
        rw [HNL.out] at z1
        have hNp := HN.out
        have hG := Ga.size
        have rA7 : Raw W5 p.g cur (.slice a5 n1 c5) (.slice ka (ks'.map Kd.g).length kc') L5 (([] : List Kd).map Kd.g) (fun k => SetOf p.g (.slice la L'.length lc) (.slice ka (ks'.map Kd.g).length kc') k ∨ (Wa.heap.size ≤ k ∧ k < W5.heap.size)) := by have hq := rA6; rw [HKZ.out] at hq ⊢; exact hq
        have hnew := rA7.node (fun x hx => by simp at hx) (fun x hx => by simp at hx) (fun i j x y hx => by simp at hx) L5
        have hins : InsR s v p.F L5 := by
          rw [HFL.out]
          have hsL : Srt L' := by rw [← HFL.out]; exact HSR.out
          exact ⟨L'.take j, L'.drop j, (List.take_append_drop j L').symm, hL5, HFP.out.below, HFP.out.above hsL⟩
        have HRES : Hid (D W5) := hide (HWD.out W5 ⟨p.g, _, _, L5⟩ rfl (sub_iff.2 ⟨_, _, _, _, _, ⟨hnew, by have := hNp.low; have := HNL.out; omega, by have := HNF.out; have := HNL.out; omega, rfl⟩, by rw [h0]; rfl⟩) hins (fun k hk => by
          rcases hk with (hk | hk) | ⟨x, hx, _⟩
          · exact .inl (hNp.setX.1 k hk)
          · exact .inr (by omega)
          · simp at hx) (fun k hk => by
          rcases hk with (hk | hk) | ⟨x, hx, _⟩
          · exact .inl (hNp.setX.2.1 rfl k hk)
          · exact .inr (by omega)
          · simp at hx) (((Ga.mono (Y := p.Y) (fun _ _ h => h.elim)).two (F6.mono (fun k _ h => hNp.setX.2.1 rfl k h)))))
        have HW5 := hide hW5
        clear HIN hr5 hn5 g5 hL5 hl5 he5 hn1' hW5 rA6 F6 hNp hG rA7 hnew hins rAa Ga
        go_wp2_with (rw [← HW5.out]; clear HW5)
        go_end0
        exact ⟨rfl, HRES.out⟩
      · have hdz : decide (ks'.length = 0) = false := decide_eq_false (by omega)
        rw [hdz]
        clear hdz
        obtain ⟨h', rfl⟩ : ∃ h', m = h' + 1 := ⟨m - 1, by omega⟩
        have hsr := HSR.out
        rw [HN.out.flat] at hsr
        obtain ⟨e, P, Q, hie, hwe, hwq, hP, hQ, _⟩ := node_way HK.out.1 HFP.out hsr
        have hQ := hQ rfl
        rw [hwe] at hsr
        obtain ⟨te, le, ke, Le, kse, hNe, hKe⟩ := sub_iff.1 (HK.out.2 e (List.mem_of_getElem? hie))
        have hpF : p.F = P ++ e.F ++ Q := HN.out.flat.trans hwe
        have HSE : Hid (Srt e.F) := hide hsr.app.1.app.2.1
        have HNE : Hid (∀ x ∈ e.F, x.key ≠ s) := hide (fun x hx => HNO.out x (by rw [hpF]; exact List.mem_append_left _ (List.mem_append_right _ hx)))
        have HWY : Hid (∀ q : Kd, InsR s v e.F q.F → InsR s v p.F (weave ((ks'.set j q).map Kd.F) L')) := hide (fun q hq => by rw [hwq q, hpF]; exact hq.within hP hQ)
        have HIE := hide hie
        obtain ⟨x0, x1, x2⟩ := HN.out.cells
        obtain ⟨la, lc, ka, kc', rfl, rfl⟩ := HN.out.shape
        obtain ⟨gk, rfl, cv⟩ := row_cell HN.out.krow (show (ptrs ks')[j]? = some (.pointer (some ⟨e.g, 0, none⟩)) by unfold ptrs; rw [List.getElem?_map, hie]; rfl)
        obtain ⟨m, hmE⟩ : ∃ m, ks'.length = m := ⟨_, rfl⟩
        have hjm : j < m := by rw [← hmE]; exact (List.getElem?_eq_some_iff.1 hie).1
        have hmb : m ≤ 128 := by have := HN.out.high; omega
        rw [hmE] at x2
        obtain ⟨y0, y1, _, _⟩ := HTB.out.cells
        have HNEV := hide hNe
        have HKEV := hide hKe
        have HME := hide hmE
        clear hsr hie hwe hwq hP hQ hpF hNe hKe hmE hk0 x0 x1
        go_wp2_with fail
        refine wp_region_K (fun z => decide (z < 11)) (fun U : World => Fr W.drew U (fun _ => False)) (by kernel_rfl) ?_
        obtain ⟨Wd, hWd⟩ : ∃ Wd, Wd = W.drew := ⟨_, rfl⟩
        have G6 : Fr W Wd (fun _ => False) := by rw [hWd]; exact Fr.drew _ _
        rw [← hWd]
        clear hWd
        have hS : (fun U : World => Fr Wd U (fun _ => False)) Wd := Fr.refl _ _
        have hSx : ∀ V, Fr Wd V (fun _ => False) → V.cell? ⟨tb, 0, none⟩ = some (.int .i64 (o : Int)) ∧ V.cell? ⟨tb, 1, none⟩ = some (.int .i64 cnt) ∧ V.cell? ⟨p.g, 2, none⟩ = some (.slice (some ⟨gk, 0, none⟩) m kc') ∧ V.cell? ⟨gk, j, none⟩ = some (.pointer (some ⟨e.g, 0, none⟩)) ∧ True := fun V hV => by
          have hd := G6.two hV
          exact ⟨hd.cell (fun h => h) y0, hd.cell (fun h => h) y1, hd.cell (fun h => h) x2, hd.cell (fun h => h) cv, trivial⟩
        clear y0 y1 x2 cv
        refine wpAnyK_takeTo 0 (some 49) (.pointer (some ⟨tb, 0, none⟩)) [1, 2, 3, 11] rfl rfl (by kernel_rfl) (by kernel_rfl) (by kernel_rfl) (by kernel_rfl) (fun _ _ _ h => h) hS (Or.inl ⟨rfl, fun w1 hw1 => by obtain ⟨q0, q1, q2, q3, _⟩ := hSx _ hw1; go_simp⟩) ?_
        simp only [Act.put, List.setIfInBounds_toArray, List.set_cons_zero, List.set_cons_succ]
        refine wpAnyK_takeTo 1 (some 50) (.pointer (some ⟨tb, 0, none⟩)) [2, 3, 11] rfl rfl (by kernel_rfl) (by kernel_rfl) (by kernel_rfl) (by kernel_rfl) (fun _ _ _ h => h) hS (Or.inl ⟨rfl, fun w1 hw1 => by obtain ⟨q0, q1, q2, q3, _⟩ := hSx _ hw1; go_simp⟩) ?_
        simp only [Act.put, List.setIfInBounds_toArray, List.set_cons_zero, List.set_cons_succ]
        refine wpAnyK_takeTo 2 (some 51) (.pointer (some ⟨tb, 0, none⟩)) [3, 11] rfl rfl (by kernel_rfl) (by kernel_rfl) (by kernel_rfl) (by kernel_rfl) (fun _ _ _ h => h) hS (Or.inl ⟨rfl, fun w1 hw1 => by obtain ⟨q0, q1, q2, q3, _⟩ := hSx _ hw1; go_simp⟩) ?_
        simp only [Act.put, List.setIfInBounds_toArray, List.set_cons_zero, List.set_cons_succ]
        refine wpAnyK_takeTo 3 (some 52) (.agg #[.int .i64 (o : Int), .int .i64 cnt]) [11] rfl rfl (by kernel_rfl) (by kernel_rfl) (by kernel_rfl) (by kernel_rfl) (fun _ _ _ h => h) hS (Or.inl ⟨rfl, fun w1 hw1 => by obtain ⟨q0, q1, q2, q3, _⟩ := hSx _ hw1; go_simp⟩) ?_
        simp only [Act.put, List.setIfInBounds_toArray, List.set_cons_zero, List.set_cons_succ]
        refine wpAnyK_takeTo 4 (some 53) (.pointer (some ⟨p.g, 0, none⟩)) [5, 6, 7, 9, 10, 11] rfl rfl (by kernel_rfl) (by kernel_rfl) (by kernel_rfl) (by kernel_rfl) (fun _ _ _ h => h) hS (Or.inl ⟨rfl, fun w1 hw1 => by obtain ⟨q0, q1, q2, q3, _⟩ := hSx _ hw1; go_simp⟩) ?_
        simp only [Act.put, List.setIfInBounds_toArray, List.set_cons_zero, List.set_cons_succ]
        refine wpAnyK_takeTo 5 (some 54) (.pointer (some ⟨p.g, 0, none⟩)) [6, 7, 9, 10, 11] rfl rfl (by kernel_rfl) (by kernel_rfl) (by kernel_rfl) (by kernel_rfl) (fun _ _ _ h => h) hS (Or.inl ⟨rfl, fun w1 hw1 => by obtain ⟨q0, q1, q2, q3, _⟩ := hSx _ hw1; go_simp⟩) ?_
        simp only [Act.put, List.setIfInBounds_toArray, List.set_cons_zero, List.set_cons_succ]
        refine wpAnyK_takeTo 6 (some 55) (.pointer (some ⟨p.g, 2, none⟩)) [7, 9, 10, 11] rfl rfl (by kernel_rfl) (by kernel_rfl) (by kernel_rfl) (by kernel_rfl) (fun _ _ _ h => h) hS (Or.inl ⟨rfl, fun w1 hw1 => by obtain ⟨q0, q1, q2, q3, _⟩ := hSx _ hw1; go_simp⟩) ?_
        simp only [Act.put, List.setIfInBounds_toArray, List.set_cons_zero, List.set_cons_succ]
        refine wpAnyK_takeTo 7 (some 56) (.slice (some ⟨gk, 0, none⟩) m kc') [9, 10, 11] rfl rfl (by kernel_rfl) (by kernel_rfl) (by kernel_rfl) (by kernel_rfl) (fun _ _ _ h => h) hS (Or.inl ⟨rfl, fun w1 hw1 => by obtain ⟨q0, q1, q2, q3, _⟩ := hSx _ hw1; go_simp⟩) ?_
        simp only [Act.put, List.setIfInBounds_toArray, List.set_cons_zero, List.set_cons_succ]
        refine wpAnyK_takeTo 8 (some 57) (.int .i64 (j : Int)) [9, 10, 11] rfl rfl (by kernel_rfl) (by kernel_rfl) (by kernel_rfl) (by kernel_rfl) (fun _ _ _ h => h) hS (Or.inl ⟨rfl, fun w1 hw1 => by obtain ⟨q0, q1, q2, q3, _⟩ := hSx _ hw1; go_simp⟩) ?_
        simp only [Act.put, List.setIfInBounds_toArray, List.set_cons_zero, List.set_cons_succ]
        refine wpAnyK_takeTo 9 (some 58) (.pointer (some ⟨gk, j, none⟩)) [10, 11] rfl rfl (by kernel_rfl) (by kernel_rfl) (by kernel_rfl) (by kernel_rfl) (fun _ _ _ h => h) hS (Or.inl ⟨rfl, fun w1 hw1 => by obtain ⟨q0, q1, q2, q3, _⟩ := hSx _ hw1; go_simp⟩) ?_
        simp only [Act.put, List.setIfInBounds_toArray, List.set_cons_zero, List.set_cons_succ]
        refine wpAnyK_takeTo 10 (some 59) (.pointer (some ⟨e.g, 0, none⟩)) [11] rfl rfl (by kernel_rfl) (by kernel_rfl) (by kernel_rfl) (by kernel_rfl) (fun _ _ _ h => h) hS (Or.inl ⟨rfl, fun w1 hw1 => by obtain ⟨q0, q1, q2, q3, _⟩ := hSx _ hw1; go_simp⟩) ?_
        simp only [Act.put, List.setIfInBounds_toArray, List.set_cons_zero, List.set_cons_succ]
        refine wpAnyK_one (i := 11) (by kernel_rfl) rfl rfl ?_
        refine wp_call_to (some 60) rfl 52 #[.agg #[.int .i64 (o : Int), .int .i64 cnt], .pointer (some ⟨e.g, 0, none⟩)] (by go_simp) (full_any (HNEV.out.toNodeP.fr G6 (fun _ _ h => h)) o (by omega) ho64 cnt) ?_
        rintro en W1 ⟨rfl, f1⟩
        refine ⟨_, rfl, fun h => by simp at h, ?_⟩
        simp only [Act.put, List.setIfInBounds_toArray, List.set_cons_zero, List.set_cons_succ]
        refine wpAnyK_done (by kernel_rfl) ?_ _
        have F1 := G6.two f1
        replace HN := hide (HN.out.fr F1 (fun _ _ h => h))
        replace HK := hide (HK.out.fr F1 (fun _ _ _ _ h => h))
        replace HTB := hide (HTB.out.fr F1 (fun h => h))
        replace HWD := hide (HWD.out.fr rfl (fun _ h => .inl h) (fun _ h => .inl h) (F1.mono (fun _ _ h => h.elim)))
        replace HNEV := hide (HNEV.out.fr F1 (fun _ _ h => h))
        replace HKEV := hide (HKEV.out.fr F1 (fun _ _ _ _ h => h))
        clear hS hSx G6 f1 F1
        by_cases hfu : Le.length = 2 * o - 1
        · have hfd : decide (Le.length = 2 * o - 1) = true := decide_eq_true hfu
          rw [hfd]
          clear hfd
          have HHA := hide (halve_any HTB.out HOUT.out HN.out HK.out HIE.out HNEV.out HKEV.out HNF.out hfu ho2 ho64)
          clear HNEV HKEV hfu
          go_wp2_with fail
          refine HHA.out.mono ?_
          rintro en W2 ⟨p2, l2, k2, x, A, Bk, d1, d2, rfl, hg2, hF2, hn2, hk2, hAl, hdd, hX2, hY2, f2⟩
          have hs2 : Srt p2.F := by rw [hF2]; exact HSR.out
          have hno2 : ∀ x ∈ p2.F, x.key ≠ s := by rw [hF2]; exact HNO.out
          have hL2 : Srt (L'.take j ++ x :: L'.drop j) := by have hq := hs2; rw [hn2.flat] at hq; exact srt_items hq
          have hn2no : ∀ y ∈ L'.take j ++ x :: L'.drop j, y.key ≠ s := by have hq := hno2; rw [hn2.flat] at hq; exact items_no hq
          have HFI := hide (find_any hn2.toNodeP hL2 (by have := hn2.high; omega) s)
          have HTB2 := hide (HTB.out.fr f2 (fun h => HOUT.out (HN.out.yx tb h)))
          have HOUT2 : Hid (¬ p2.X tb) := hide (fun hx => by
            rcases hX2 tb hx with h | h
            · exact HOUT.out h
            · have := (Array.getElem?_eq_some_iff.1 HTB.out.box).1; omega)
          have HWD2 : Hid (Wand o cur (h' + 1) lo W2 p2 (InsR s v p2.F) D) := hide (by
            have hq := HWD.out.fr hg2 hX2 hY2 f2
            rw [hF2]; exact hq)
          have HN2 := hide hn2
          have HK2 := hide hk2
          have HS2 := hide hs2
          have HNO2 := hide hno2
          have HNI := hide hn2no
          have HAL := hide hAl
          have HDD := hide hdd
          have HG2 := hide hg2
          have HFPO := hide HFP.out
          rw [← hg2]
          clear HHA HTB HOUT HWD HN HK HSR HFP HNO HNF hn2 hk2 hs2 hno2 hL2 hn2no hAl hdd hg2 hF2 hX2 hY2 f2 HIE HSE HNE HWY HME hjm hmb
          go_wp2_with fail
          refine HFI.out.mono ?_
          rintro en W2' ⟨i2, b2, rfl, hfp2, f3⟩
          obtain rfl : b2 = false := find_false hfp2 HNI.out
          have hcase := find_more HFPO.out hfp2
          have hs3 := HS2.out
          rw [HN2.out.flat] at hs3
          obtain ⟨e', P', Q', hie', hwe', hwq', hP', hQ', _⟩ := node_way HK2.out.1 hfp2 hs3
          have hQ' := hQ' rfl
          rw [hwe'] at hs3
          have hpF' : p2.F = P' ++ e'.F ++ Q' := HN2.out.flat.trans hwe'
          have hem : e' ∈ [d1, d2] := by
            rcases hcase with rfl | rfl
            · rw [List.getElem?_append_right (by rw [HAL.out]; exact Nat.le_refl _), HAL.out, Nat.sub_self] at hie'
              simp at hie'; simp [hie']
            · rw [List.getElem?_append_right (by rw [HAL.out]; omega), HAL.out, Nat.add_sub_cancel_left] at hie'
              simp at hie'; simp [hie']
          obtain ⟨te', le', ke', Le', kse', hNe0, hKe0, hll0⟩ := HDD.out e' hem
          have hll' : Le'.length < 2 * o - 1 := by omega
          have HSE : Hid (Srt e'.F) := hide hs3.app.1.app.2.1
          have HNE : Hid (∀ x ∈ e'.F, x.key ≠ s) := hide (fun x hx => HNO2.out x (by rw [hpF']; exact List.mem_append_left _ (List.mem_append_right _ hx)))
          have HWY : Hid (∀ q : Kd, InsR s v e'.F q.F → InsR s v p2.F (weave (((A ++ d1 :: d2 :: Bk).set i2 q).map Kd.F) (L'.take j ++ x :: L'.drop j))) := hide (fun q hq => by rw [hwq' q, hpF']; exact hq.within hP' hQ')
          have HIE := hide hie'
          have hNe := hNe0.fr f3 (fun _ _ h => h)
          have hKe := hKe0.fr f3 (fun _ _ _ _ h => h)
          have HN := hide (HN2.out.fr f3 (fun _ _ h => h))
          have HK := hide (HK2.out.fr f3 (fun _ _ _ _ h => h))
          have HTB := hide (HTB2.out.fr f3 (fun h => h))
          have HOUT := hide HOUT2.out
          have HWD := hide (HWD2.out.fr rfl (fun _ h => .inl h) (fun _ h => .inl h) (f3.mono (fun _ _ h => h.elim)))
          clear HFI hcase hs3 hie' hwe' hwq' hP' hQ' hpF' hem hNe0 hKe0 hll0 f3 hfp2 HN2 HK2 HTB2 HOUT2 HWD2 HS2 HNO2 HNI HAL HDD HG2 HFPO
          go_wp2_with fail
          have HKD := hide (kid_any HTB.out HN.out HK.out HIE.out hNe hKe ho64)
          have hSL : Srt Le' := by have hq := HSE.out; rw [hNe.flat] at hq; exact srt_items hq
          have hleb : Le'.length ≤ 1048576 := by have := hNe.high; omega
          have HNOE : Hid (∀ x ∈ Le', x.key ≠ s) := hide (by have hq := HNE.out; rw [hNe.flat] at hq; exact items_no hq)
          have HLE := hide hSL
          have HLL := hide hll'
          clear hNe hKe hSL hll'
          go_wp2_with fail
          refine HKD.out.mono ?_
          rintro en W3 ⟨p1, d', l1, k1, rfl, hg1, hF1, hn1, hk1, hnd, hkd, hFd, hX1, hY1, hXd, hYd, f1⟩
          have hkl : i2 < (A ++ d1 :: d2 :: Bk).length := (List.getElem?_eq_some_iff.1 HIE.out).1
          have hi1 : ((A ++ d1 :: d2 :: Bk).set i2 d')[i2]? = some d' := by rw [List.getElem?_set, if_pos rfl, if_pos hkl]
          have hfy : Fr W2' W3 p2.Y := f1.mono (fun k _ h => HN.out.ky rfl k h)
          have hWD1 : Wand o cur h' (o - 1) W3 d' (InsR s v d'.F) D := wand_down HWD.out hn1 hk1 hi1 hg1 hX1 hY1 hfy (fun q hq => by
            rw [List.set_set]
            exact HWY.out q (by rw [← hFd]; exact hq))
          have htb1 := HTB.out.fr f1 (fun h => HOUT.out (HN.out.kx tb h))
          have hdo : ¬ d'.X tb := fun hx => by
            rcases hXd tb hx with h | h
            · exact HOUT.out (HN.out.sx e' (List.mem_of_getElem? HIE.out) tb h)
            · have := (Array.getElem?_eq_some_iff.1 HTB.out.box).1; omega
          have HFI2 := hide (find_any hnd.toNodeP HLE.out hleb s)
          have HND := hide hnd
          have HKD2 := hide hkd
          have HWD1 := hide hWD1
          have HTB1 := hide htb1
          have HDO := hide hdo
          have HFD := hide hFd
          clear HKD hg1 hF1 hn1 hk1 hnd hkd hFd hX1 hY1 hXd hYd f1 hkl hi1 hfy hWD1 htb1 hdo HN HK HTB HOUT HWD HWY HIE
          go_wp2_with fail
          refine HFI2.out.mono ?_
          rintro en W4 ⟨j2, b2, rfl, hfp2, f2⟩
          obtain rfl : b2 = false := find_false hfp2 HNOE.out
          have HRES : Hid (InsW o cur tb rg cnt s D v h' (.pointer (some ⟨d'.g, 0, none⟩)) (.int .i64 (j2 : Int)) W4) := hide ⟨o - 1, d', l1, k1, Le', kse', j2, rfl, rfl, HND.out.fr f2 (fun _ _ h => h), HKD2.out.fr f2 (fun _ _ _ _ h => h), by rw [HFD.out]; exact HSE.out, hfp2, by rw [HFD.out]; exact HNE.out, HLL.out, HTB1.out.fr f2 (fun h => h), HDO.out, HWD1.out.fr rfl (fun _ h => .inl h) (fun _ h => .inl h) (f2.mono (fun _ _ h => h.elim))⟩
          clear HFI2 hfp2 f2 HND HKD2 HWD1 HTB1 HDO HFD HSE HNE HLE HNOE HLL
          go_wp2
          go_roundw
          case rel => exact ⟨h', HRES.out⟩
          case measure =>
            refine Nat.lt_of_le_of_lt (least_le HRES.out) ?_
            rw [HM.out]; omega
        · have hfd : decide (Le.length = 2 * o - 1) = false := decide_eq_false hfu
          rw [hfd]
          clear hfd
          have hll : Le.length < 2 * o - 1 := by have := HNEV.out.high; omega
          have hNe := HNEV.out
          have hKe := HKEV.out
          clear HNEV HKEV HSR HFP HNO HNF hfu hjm hmb HME
          have HKD := hide (kid_any HTB.out HN.out HK.out HIE.out hNe hKe ho64)
          have hSL : Srt Le := by have hq := HSE.out; rw [hNe.flat] at hq; exact srt_items hq
          have hleb : Le.length ≤ 1048576 := by have := hNe.high; omega
          have HNOE : Hid (∀ x ∈ Le, x.key ≠ s) := hide (by have hq := HNE.out; rw [hNe.flat] at hq; exact items_no hq)
          have HLE := hide hSL
          have HLL := hide hll
          clear hNe hKe hSL hll
          go_wp2_with fail
          refine HKD.out.mono ?_
          rintro en W3 ⟨p1, d', l1, k1, rfl, hg1, hF1, hn1, hk1, hnd, hkd, hFd, hX1, hY1, hXd, hYd, f1⟩
          have hkl : j < ks'.length := (List.getElem?_eq_some_iff.1 HIE.out).1
          have hi1 : (ks'.set j d')[j]? = some d' := by rw [List.getElem?_set, if_pos rfl, if_pos hkl]
          have hfy : Fr W1 W3 p.Y := f1.mono (fun k _ h => HN.out.ky rfl k h)
          have hWD1 : Wand o cur h' (o - 1) W3 d' (InsR s v d'.F) D := wand_down HWD.out hn1 hk1 hi1 hg1 hX1 hY1 hfy (fun q hq => by
            rw [List.set_set]
            exact HWY.out q (by rw [← hFd]; exact hq))
          have htb1 := HTB.out.fr f1 (fun h => HOUT.out (HN.out.kx tb h))
          have hdo : ¬ d'.X tb := fun hx => by
            rcases hXd tb hx with h | h
            · exact HOUT.out (HN.out.sx e (List.mem_of_getElem? HIE.out) tb h)
            · have := (Array.getElem?_eq_some_iff.1 HTB.out.box).1; omega
          have HFI2 := hide (find_any hnd.toNodeP HLE.out hleb s)
          have HND := hide hnd
          have HKD2 := hide hkd
          have HWD1 := hide hWD1
          have HTB1 := hide htb1
          have HDO := hide hdo
          have HFD := hide hFd
          clear HKD hg1 hF1 hn1 hk1 hnd hkd hFd hX1 hY1 hXd hYd f1 hkl hi1 hfy hWD1 htb1 hdo HN HK HTB HOUT HWD HWY HIE
          go_wp2_with fail
          refine HFI2.out.mono ?_
          rintro en W4 ⟨j2, b2, rfl, hfp2, f2⟩
          obtain rfl : b2 = false := find_false hfp2 HNOE.out
          have HRES : Hid (InsW o cur tb rg cnt s D v h' (.pointer (some ⟨d'.g, 0, none⟩)) (.int .i64 (j2 : Int)) W4) := hide ⟨o - 1, d', l1, k1, Le, kse, j2, rfl, rfl, HND.out.fr f2 (fun _ _ h => h), HKD2.out.fr f2 (fun _ _ _ _ h => h), by rw [HFD.out]; exact HSE.out, hfp2, by rw [HFD.out]; exact HNE.out, HLL.out, HTB1.out.fr f2 (fun h => h), HDO.out, HWD1.out.fr rfl (fun _ h => .inl h) (fun _ h => .inl h) (f2.mono (fun _ _ h => h.elim))⟩
          clear HFI2 hfp2 f2 HND HKD2 HWD1 HTB1 HDO HFD HSE HNE HLE HNOE HLL
          go_wp2
          go_roundw
          case rel => exact ⟨h', HRES.out⟩
          case measure =>
            refine Nat.lt_of_le_of_lt (least_le HRES.out) ?_
            rw [HM.out]; omega
end Go.Proofs.YtigkinakhijfoaaGreat
