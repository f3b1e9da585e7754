/- Values compared, in memory. -/
import Derived.Test.YtlapifncplbcnaaGreatVa
import Derived.Test.YtlapifncplbcnaaGreatKr
import Derived.Laws.Externs
import Derived.Shelf.SlSortCmp.WholeK
namespace Go.Proofs.YtlapifncplbcnaaGreat
open Go.RowKit Go.Sort
set_option maxRecDepth 100000
set_option linter.unusedVariables false
set_option linter.unusedSimpArgs false

/-- Only draws and new blocks. -/
def Gr (w w' : World) : Prop := ∃ n os, w' = grow (w.drewN n) os
theorem Fr.ofGrow {w w' : World} {n : Nat} {os : Array Obj} (h : w' = grow (w.drewN n) os) : Fr w w' (fun _ => False) := by
  subst h
  refine ⟨rfl, rfl, rfl, ?_, fun k hk _ => ?_⟩
  · show w.heap.size ≤ (w.heap ++ os).size
    rw [Array.size_append]; omega
  · show (w.heap ++ os)[k]? = _
    rw [Array.getElem?_append_left hk]
theorem Gr.fr {w w' : World} (h : Gr w w') : Fr w w' (fun _ => False) := by obtain ⟨n, os, h⟩ := h; exact Fr.ofGrow h
theorem Gr.refl (w : World) : Gr w w := ⟨0, #[], by rw [grow_empty]; rfl⟩
theorem Gr.alloc (w : World) (o : Obj) : Gr w (w.alloc o) := ⟨0, #[o], by rw [alloc_eq_grow]; rfl⟩
theorem Gr.drew (w : World) : Gr w w.drew := ⟨1, #[], by rw [grow_empty]; rfl⟩
theorem Gr.trans {a b c : World} (h : Gr a b) (k : Gr b c) : Gr a c := by
  obtain ⟨n, os, rfl⟩ := h
  obtain ⟨m, os', rfl⟩ := k
  refine ⟨n + m, os ++ os', ?_⟩
  have e : (grow (a.drewN n) os).drewN m = grow ((a.drewN n).drewN m) os := rfl
  rw [e, grow_grow]
  show grow _ _ = grow _ _
  congr 1
  simp [World.drewN, Nat.add_assoc]
theorem gr_two {w : World} {o1 o2 : Obj} : Gr w ((w.alloc o1).alloc o2) := (Gr.alloc _ _).trans (Gr.alloc _ _)
theorem Gr.trans1 {w w1 : World} (h : Gr w w1) (o : Obj) : Gr w (w1.alloc o) := h.trans (Gr.alloc _ _)
/-- A block of three cells. -/
def Three (w : World) (g : Nat) (p q r : Value) : Prop := w.cell? ⟨g, 0, none⟩ = some p ∧ w.cell? ⟨g, 1, none⟩ = some q ∧ w.cell? ⟨g, 2, none⟩ = some r ∧ ∀ j, w.frozen? ⟨g, j, none⟩ = false
theorem three_of {w : World} {g : Nat} {p q r : Value} {t : TypeId} (h : w.heap[g]? = some (.cells #[p, q, r] t (0, 0))) : Three w g p q r :=
  ⟨by rw [cell_of_row _ _ _ _ _ _ h]; rfl, by rw [cell_of_row _ _ _ _ _ _ h]; rfl, by rw [cell_of_row _ _ _ _ _ _ h]; rfl, fun j => by simp [World.frozen?, h]⟩
theorem Three.fr {w w' : World} {X : Nat → Prop} {g : Nat} {p q r : Value} (h : Three w g p q r) (hf : Fr w w' X) (hx : ¬ X g) : Three w' g p q r := by
  have hb := World.block_lt_of_cell? w _ h.1
  refine ⟨?_, ?_, ?_, fun j => ?_⟩
  · rw [World.cell?_of_block (w := w) (hf.block g hb hx)]; exact h.1
  · rw [World.cell?_of_block (w := w) (hf.block g hb hx)]; exact h.2.1
  · rw [World.cell?_of_block (w := w) (hf.block g hb hx)]; exact h.2.2.1
  · rw [← h.2.2.2 j]; simp [World.frozen?, hf.block g hb hx]
/-- A slice of values. -/
def Vals (w : World) (a : Option Addr) (L : List Val) : Prop :=
  L = [] ∨ ∃ g off, a = some ⟨g, off, none⟩ ∧ ∀ (j : Nat) (v : Val), L[j]? = some v →
    w.cell? ⟨g, off + j * 3, none⟩ = some (.int .i64 v.kind) ∧ w.cell? ⟨g, off + j * 3 + 1, none⟩ = some (.int .i64 v.num) ∧ w.cell? ⟨g, off + j * 3 + 2, none⟩ = some (.string (strOf v.text))
theorem Vals.get {w w' : World} {a : Option Addr} {L : List Val} (h : Vals w a L) (hf : Fr w w' (fun k => w.heap.size ≤ k)) (j : Nat) (v : Val) (hv : L[j]? = some v) :
    ∃ g off, a = some ⟨g, off, none⟩ ∧ w'.cell? ⟨g, off + j * 3, none⟩ = some (.int .i64 v.kind) ∧ w'.cell? ⟨g, off + j * 3 + 1, none⟩ = some (.int .i64 v.num) ∧ w'.cell? ⟨g, off + j * 3 + 2, none⟩ = some (.string (strOf v.text)) := by
  rcases h with rfl | ⟨g, off, rfl, hc⟩
  · simp at hv
  · obtain ⟨h1, h2, h3⟩ := hc j v hv
    have hb : g < w.heap.size := World.block_lt_of_cell? w _ h1
    have e : ∀ o, w'.cell? ⟨g, o, none⟩ = w.cell? ⟨g, o, none⟩ := fun o => World.cell?_of_block (w := w) (hf.block g hb (by omega))
    exact ⟨g, off, rfl, by rw [e]; exact h1, by rw [e]; exact h2, by rw [e]; exact h3⟩
theorem Vals.fr {w w' : World} {X : Nat → Prop} {a : Option Addr} {L : List Val} (h : Vals w a L) (hf : Fr w w' X) (hx : ∀ g off, a = some ⟨g, off, none⟩ → g < w.heap.size → ¬ X g) : Vals w' a L := by
  rcases h with h | ⟨g, off, rfl, hc⟩
  · exact .inl h
  · refine .inr ⟨g, off, rfl, fun j v hv => ?_⟩
    obtain ⟨h1, h2, h3⟩ := hc j v hv
    have hb : g < w.heap.size := World.block_lt_of_cell? w _ h1
    have e : ∀ o, w'.cell? ⟨g, o, none⟩ = w.cell? ⟨g, o, none⟩ := fun o => World.cell?_of_block (w := w) (hf.block g hb (hx g off rfl hb))
    exact ⟨by rw [e]; exact h1, by rw [e]; exact h2, by rw [e]; exact h3⟩
set_option maxHeartbeats 1000000 in
theorem cmpInt_any (a b : Int) (w : World) : Calls Tryz.prog 120 #[.int .i64 a, .int .i64 b] w fun e w' => e = .returned (.int .i64 (cmpI a b)) ∧ w' = w := by
  unfold cmpI
  by_cases h1 : a < b
  · rw [if_pos h1]
    go_enter Tryz.func120, Tryz.ntmps120
    go_wp2
    go_ret
    exact ⟨rfl, rfl⟩
  · rw [if_neg h1]
    by_cases h2 : b < a
    · rw [if_pos h2]
      go_enter Tryz.func120, Tryz.ntmps120
      go_wp2
      go_ret
      exact ⟨rfl, rfl⟩
    · rw [if_neg h2]
      go_enter Tryz.func120, Tryz.ntmps120
      go_wp2
      go_ret
      exact ⟨rfl, rfl⟩
set_option maxHeartbeats 1000000 in
theorem cmpInt64_any (a b : Int) (w : World) : Calls Tryz.prog 83 #[.int .i64 a, .int .i64 b] w fun e w' => e = .returned (.int .i64 (cmpI a b)) ∧ w' = w := by
  unfold cmpI
  by_cases h1 : a < b
  · rw [if_pos h1]
    go_enter Tryz.func83, Tryz.ntmps83
    go_wp2
    go_ret
    exact ⟨rfl, rfl⟩
  · rw [if_neg h1]
    by_cases h2 : b < a
    · rw [if_pos h2]
      go_enter Tryz.func83, Tryz.ntmps83
      go_wp2
      go_ret
      exact ⟨rfl, rfl⟩
    · rw [if_neg h2]
      go_enter Tryz.func83, Tryz.ntmps83
      go_wp2
      go_ret
      exact ⟨rfl, rfl⟩
theorem run_cmpstring (s t : List UInt8) (w : World) : (callFunc 165 #[.string (strOf s), .string (strOf t)]).run Tryz.prog w = .ok (.value (.int .i64 (Lib.compareBytes s t))) w := by
  rw [run_callFunc_extern Tryz.func165 (by kernel_rfl) (by kernel_rfl) (by kernel_rfl) (e := Extern.BytealgCompare.compare) (by kernel_rfl), Lib.run_compareString]
  simp [strOf]
set_option maxHeartbeats 1000000 in
theorem cmpStr_any (s t : List UInt8) (w : World) : Calls Tryz.prog 121 #[.string (strOf s), .string (strOf t)] w fun e w' => e = .returned (.int .i64 (Lib.compareBytes s t)) ∧ w' = w := by
  have hx := run_cmpstring s t
  go_enter Tryz.func121, Tryz.ntmps121
  go_wp2
  go_ret
  exact ⟨rfl, rfl⟩
set_option maxHeartbeats 1000000 in
theorem or_any (g c : Nat) (xs : List Int) (w : World) (hc : ∀ j x, xs[j]? = some x → w.cell? ⟨g, j, none⟩ = some (.int .i64 x)) (hn : xs.length ≤ 140737488355328) :
    Calls Tryz.prog 102 #[.slice (some ⟨g, 0, none⟩) xs.length c] w fun e w' => e = .returned (.int .i64 (firstOf xs)) ∧ w' = w := by
  have HC := hide hc
  clear hc
  go_enter Tryz.func102, Tryz.ntmps102
  go_wp2
  go_loopw [8] (fun i wr => ∃ k : Nat, k ≤ xs.length ∧ i = .int .i64 k ∧ wr = w ∧ firstOf (xs.drop k) = firstOf xs) (fun i _ => xs.length - (intOf i).toNat)
  case atStart => exact ⟨0, by omega, rfl, rfl, rfl⟩
  case round =>
    obtain ⟨k, hk, rfl, rfl, he⟩ := hrel
    have HE := hide he
    clear he
    by_cases hlt : k < xs.length
    · obtain ⟨x, hx⟩ : ∃ x, xs[k]? = some x := ⟨_, List.getElem?_eq_getElem hlt⟩
      have c0 := HC.out k x hx
      have hd := firstOf_drop xs k x hx
      clear hx
      by_cases hx0 : x = 0
      · subst hx0
        rw [if_pos rfl] at hd
        have HD := hide hd
        clear hd
        go_wp2
        go_roundw
        case rel => exact ⟨k + 1, by omega, by go_num, trivial, by rw [← HD.out, HE.out]⟩
        case measure => simp [intOf]; omega
      · rw [if_neg hx0, HE.out] at hd
        have HD := hide hd
        clear hd
        go_wp2
        go_ret
        exact ⟨by rw [HD.out]; rfl, rfl⟩
    · obtain rfl : k = xs.length := by omega
      have hd : firstOf xs = 0 := by rw [← HE.out, List.drop_length]; rfl
      have HD := hide hd
      clear hd
      go_wp2
      go_ret
      exact ⟨by rw [HD.out]; rfl, rfl⟩
theorem three_ints {w : World} {g : Nat} {x y z : Int} {t : TypeId} (h : w.heap[g]? = some (.cells #[.int .i64 x, .int .i64 y, .int .i64 z] t (0, 0))) : ∀ (j : Nat) (u : Int), [x, y, z][j]? = some u → w.cell? ⟨g, j, none⟩ = some (.int .i64 u) := by
  intro j u hu
  rw [cell_of_row _ _ _ _ _ _ h]
  match j with
  | 0 => simp at hu; subst hu; rfl
  | 1 => simp at hu; subst hu; rfl
  | 2 => simp at hu; subst hu; rfl
  | j + 3 => simp at hu
set_option maxRecDepth 100000 in
set_option maxHeartbeats 2000000 in
theorem cmpVals_any (a b : Val) (w : World) : Calls Tryz.prog 91 #[.agg #[.int .i64 a.kind, .int .i64 a.num, .string (strOf a.text)], .agg #[.int .i64 b.kind, .int .i64 b.num, .string (strOf b.text)]] w fun e w' => e = .returned (.int .i64 (cmpV a b)) ∧ Gr w w' := by
  have HF := hide (cmpV_first a b)
  go_enter Tryz.func91, Tryz.ntmps91
  go_wp2_with fail
  have T1 := three_of (heap_alloc2_old w (.cells #[.int .i64 a.kind, .int .i64 a.num, .string (strOf a.text)] 49) (.cells #[.int .i64 b.kind, .int .i64 b.num, .string (strOf b.text)] 49))
  have T2 := three_of (heap_alloc2_new w (.cells #[.int .i64 a.kind, .int .i64 a.num, .string (strOf a.text)] 49) (.cells #[.int .i64 b.kind, .int .i64 b.num, .string (strOf b.text)] 49))
  have G2 : Gr w ((w.alloc (.cells #[.int .i64 a.kind, .int .i64 a.num, .string (strOf a.text)] 49)).alloc (.cells #[.int .i64 b.kind, .int .i64 b.num, .string (strOf b.text)] 49)) := gr_two
  have F2 : Fr w ((w.alloc (.cells #[.int .i64 a.kind, .int .i64 a.num, .string (strOf a.text)] 49)).alloc (.cells #[.int .i64 b.kind, .int .i64 b.num, .string (strOf b.text)] 49)) (fun _ => False) := gr_two.fr
  generalize hW : (w.alloc (.cells #[.int .i64 a.kind, .int .i64 a.num, .string (strOf a.text)] 49)).alloc (.cells #[.int .i64 b.kind, .int .i64 b.num, .string (strOf b.text)] 49) = W at *
  clear hW
  refine wp_region_K (fun _ => true) (fun V => Three V w.heap.size (.int .i64 a.kind) (.int .i64 a.num) (.string (strOf a.text)) ∧ Three V (w.heap.size + 1) (.int .i64 b.kind) (.int .i64 b.num) (.string (strOf b.text))) (by kernel_rfl) ?_
  have D0 := Fr.drew W (fun _ => False)
  have G0 := Gr.drew W
  have S0 : (fun V : World => Three V w.heap.size (.int .i64 a.kind) (.int .i64 a.num) (.string (strOf a.text)) ∧ Three V (w.heap.size + 1) (.int .i64 b.kind) (.int .i64 b.num) (.string (strOf b.text))) W.drew := ⟨T1.fr D0 id, T2.fr D0 id⟩
  refine wpAnyK_takeTo 0 (some 5) (.pointer (some ⟨w.heap.size, 0, none⟩)) [] rfl rfl (by kernel_rfl) (by kernel_rfl) (by kernel_rfl) (by kernel_rfl) (fun _ _ _ h => h) S0 (Or.inl ⟨rfl, fun w1 hw1 => by go_simp⟩) ?_
  simp only [Act.put, List.setIfInBounds_toArray, List.set_cons_zero, List.set_cons_succ]
  refine wpAnyK_takeTo 1 (some 6) (.int .i64 a.kind) [] rfl rfl (by kernel_rfl) (by kernel_rfl) (by kernel_rfl) (by kernel_rfl) (fun _ _ _ h => h) S0 (Or.inl ⟨rfl, fun w1 hw1 => by obtain ⟨⟨q0, q1, q2, _⟩, ⟨q3, q4, q5, _⟩⟩ := hw1; go_simp⟩) ?_
  simp only [Act.put, List.setIfInBounds_toArray, List.set_cons_zero, List.set_cons_succ]
  refine wpAnyK_takeTo 2 (some 7) (.pointer (some ⟨w.heap.size + 1, 0, none⟩)) [] rfl rfl (by kernel_rfl) (by kernel_rfl) (by kernel_rfl) (by kernel_rfl) (fun _ _ _ h => h) S0 (Or.inl ⟨rfl, fun w1 hw1 => by go_simp⟩) ?_
  simp only [Act.put, List.setIfInBounds_toArray, List.set_cons_zero, List.set_cons_succ]
  refine wpAnyK_takeTo 3 (some 8) (.int .i64 b.kind) [] rfl rfl (by kernel_rfl) (by kernel_rfl) (by kernel_rfl) (by kernel_rfl) (fun _ _ _ h => h) S0 (Or.inl ⟨rfl, fun w1 hw1 => by obtain ⟨⟨q0, q1, q2, _⟩, ⟨q3, q4, q5, _⟩⟩ := hw1; go_simp⟩) ?_
  simp only [Act.put, List.setIfInBounds_toArray, List.set_cons_zero, List.set_cons_succ]
  refine wpAnyK_takeTo 5 (some 10) (.pointer (some ⟨w.heap.size, 1, none⟩)) [] rfl rfl (by kernel_rfl) (by kernel_rfl) (by kernel_rfl) (by kernel_rfl) (fun _ _ _ h => h) S0 (Or.inl ⟨rfl, fun w1 hw1 => by go_simp⟩) ?_
  simp only [Act.put, List.setIfInBounds_toArray, List.set_cons_zero, List.set_cons_succ]
  refine wpAnyK_takeTo 6 (some 11) (.int .i64 a.num) [] rfl rfl (by kernel_rfl) (by kernel_rfl) (by kernel_rfl) (by kernel_rfl) (fun _ _ _ h => h) S0 (Or.inl ⟨rfl, fun w1 hw1 => by obtain ⟨⟨q0, q1, q2, _⟩, ⟨q3, q4, q5, _⟩⟩ := hw1; go_simp⟩) ?_
  simp only [Act.put, List.setIfInBounds_toArray, List.set_cons_zero, List.set_cons_succ]
  refine wpAnyK_takeTo 7 (some 12) (.pointer (some ⟨w.heap.size + 1, 1, none⟩)) [] rfl rfl (by kernel_rfl) (by kernel_rfl) (by kernel_rfl) (by kernel_rfl) (fun _ _ _ h => h) S0 (Or.inl ⟨rfl, fun w1 hw1 => by go_simp⟩) ?_
  simp only [Act.put, List.setIfInBounds_toArray, List.set_cons_zero, List.set_cons_succ]
  refine wpAnyK_takeTo 8 (some 13) (.int .i64 b.num) [] rfl rfl (by kernel_rfl) (by kernel_rfl) (by kernel_rfl) (by kernel_rfl) (fun _ _ _ h => h) S0 (Or.inl ⟨rfl, fun w1 hw1 => by obtain ⟨⟨q0, q1, q2, _⟩, ⟨q3, q4, q5, _⟩⟩ := hw1; go_simp⟩) ?_
  simp only [Act.put, List.setIfInBounds_toArray, List.set_cons_zero, List.set_cons_succ]
  refine wpAnyK_takeTo 10 (some 15) (.pointer (some ⟨w.heap.size, 2, none⟩)) [] rfl rfl (by kernel_rfl) (by kernel_rfl) (by kernel_rfl) (by kernel_rfl) (fun _ _ _ h => h) S0 (Or.inl ⟨rfl, fun w1 hw1 => by go_simp⟩) ?_
  simp only [Act.put, List.setIfInBounds_toArray, List.set_cons_zero, List.set_cons_succ]
  refine wpAnyK_takeTo 11 (some 16) (.string (strOf a.text)) [] rfl rfl (by kernel_rfl) (by kernel_rfl) (by kernel_rfl) (by kernel_rfl) (fun _ _ _ h => h) S0 (Or.inl ⟨rfl, fun w1 hw1 => by obtain ⟨⟨q0, q1, q2, _⟩, ⟨q3, q4, q5, _⟩⟩ := hw1; go_simp⟩) ?_
  simp only [Act.put, List.setIfInBounds_toArray, List.set_cons_zero, List.set_cons_succ]
  refine wpAnyK_takeTo 12 (some 17) (.pointer (some ⟨w.heap.size + 1, 2, none⟩)) [] rfl rfl (by kernel_rfl) (by kernel_rfl) (by kernel_rfl) (by kernel_rfl) (fun _ _ _ h => h) S0 (Or.inl ⟨rfl, fun w1 hw1 => by go_simp⟩) ?_
  simp only [Act.put, List.setIfInBounds_toArray, List.set_cons_zero, List.set_cons_succ]
  refine wpAnyK_takeTo 13 (some 18) (.string (strOf b.text)) [] rfl rfl (by kernel_rfl) (by kernel_rfl) (by kernel_rfl) (by kernel_rfl) (fun _ _ _ h => h) S0 (Or.inl ⟨rfl, fun w1 hw1 => by obtain ⟨⟨q0, q1, q2, _⟩, ⟨q3, q4, q5, _⟩⟩ := hw1; go_simp⟩) ?_
  simp only [Act.put, List.setIfInBounds_toArray, List.set_cons_zero, List.set_cons_succ]
  refine wpAnyK_one (i := 4) (by kernel_rfl) rfl rfl ?_
  refine wp_call_to (some 9) rfl 120 #[.int .i64 a.kind, .int .i64 b.kind] (by go_simp) (cmpInt_any _ _ _) ?_
  rintro e w' ⟨rfl, rfl⟩
  refine ⟨_, rfl, fun _ => S0, ?_⟩
  simp only [Act.put, List.setIfInBounds_toArray, List.set_cons_zero, List.set_cons_succ]
  refine wpAnyK_one (i := 9) (by kernel_rfl) rfl rfl ?_
  refine wp_call_to (some 14) rfl 83 #[.int .i64 a.num, .int .i64 b.num] (by go_simp) (cmpInt64_any _ _ _) ?_
  rintro e w' ⟨rfl, rfl⟩
  refine ⟨_, rfl, fun _ => S0, ?_⟩
  simp only [Act.put, List.setIfInBounds_toArray, List.set_cons_zero, List.set_cons_succ]
  refine wpAnyK_one (i := 14) (by kernel_rfl) rfl rfl ?_
  refine wp_call_to (some 19) rfl 121 #[.string (strOf a.text), .string (strOf b.text)] (by go_simp) (cmpStr_any _ _ _) ?_
  rintro e w' ⟨rfl, rfl⟩
  refine ⟨_, rfl, fun _ => S0, ?_⟩
  simp only [Act.put, List.setIfInBounds_toArray, List.set_cons_zero, List.set_cons_succ]
  refine wpAnyK_one (i := 15) (by kernel_rfl) rfl rfl ?_
  go_simp
  have D1 := (D0.trans (Fr.alloc W.drew (.cells #[.int .i64 (cmpI a.kind b.kind), .int .i64 (cmpI a.num b.num), .int .i64 (Lib.compareBytes a.text b.text)] 3) (fun _ => False))).mono (Y := fun _ => False) (by simp)
  have S1 : (fun V : World => Three V w.heap.size (.int .i64 a.kind) (.int .i64 a.num) (.string (strOf a.text)) ∧ Three V (w.heap.size + 1) (.int .i64 b.kind) (.int .i64 b.num) (.string (strOf b.text))) (W.drew.alloc (.cells #[.int .i64 (cmpI a.kind b.kind), .int .i64 (cmpI a.num b.num), .int .i64 (Lib.compareBytes a.text b.text)] 3)) := ⟨T1.fr D1 id, T2.fr D1 id⟩
  refine ⟨S1, ?_⟩
  refine wpAnyK_one (i := 16) (by kernel_rfl) rfl rfl ?_
  refine wp_call_to (some 21) rfl 102 #[.slice (some ⟨W.heap.size, 0, none⟩) 3 3] (by go_simp) (or_any W.heap.size 3 [cmpI a.kind b.kind, cmpI a.num b.num, Lib.compareBytes a.text b.text] _ (three_ints (heap_alloc_new W.drew _)) (by simp)) ?_
  rintro e w' ⟨rfl, rfl⟩
  refine ⟨_, rfl, fun _ => S1, ?_⟩
  simp only [Act.put, List.setIfInBounds_toArray, List.set_cons_zero, List.set_cons_succ]
  rw [HF.out]
  refine wpAnyK_takeTo 17 (some 4) (.int .i64 (cmpV a b)) [] rfl rfl (by kernel_rfl) (by kernel_rfl) (by kernel_rfl) (by kernel_rfl) (fun _ _ _ h => h) S1 (Or.inl ⟨rfl, fun w1 hw1 => by go_simp⟩) ?_
  simp only [Act.put, List.setIfInBounds_toArray, List.set_cons_zero, List.set_cons_succ]
  refine wpAnyK_done (by kernel_rfl) ?_ _
  go_wp2
  go_ret
  exact ⟨rfl, G2.trans (G0.trans (Gr.alloc _ _))⟩
set_option maxRecDepth 100000 in
set_option maxHeartbeats 2000000 in
theorem compareFunc_any (a b : Option Addr) (ca cb : Nat) (A B : List Val) (w : World) (ha : Vals w a A) (hb : Vals w b B) (hA : A.length ≤ 140737488355328) (hB : B.length ≤ 140737488355328) :
    Calls Tryz.prog 90 #[.slice a A.length ca, .slice b B.length cb, .func (.func 91) #[] #[]] w fun e w' => e = .returned (.int .i64 (cmpL A B)) ∧ Gr w w' := by
  have HA := hide ha
  have HB := hide hb
  clear ha hb
  go_enter Tryz.func90, Tryz.ntmps90
  go_wp2
  go_loopw [13] (fun i wr => ∃ k : Nat, k ≤ A.length ∧ k ≤ B.length ∧ i = .int .i64 k ∧ Gr w wr ∧ cmpL (A.drop k) (B.drop k) = cmpL A B) (fun i _ => A.length - (intOf i).toNat)
  case atStart => exact ⟨0, by omega, by omega, rfl, Gr.refl _, rfl⟩
  case round =>
    rename World => w7
    obtain ⟨k, hkA, hkB, rfl, hf, he⟩ := hrel
    have HF := hide hf
    have HE := hide he
    clear hf he
    by_cases hltA : k < A.length
    · obtain ⟨x, hx⟩ : ∃ v, A[k]? = some v := ⟨_, List.getElem?_eq_getElem hltA⟩
      obtain ⟨ga, oa, rfl, c0, c1, c2⟩ := HA.out.get (HF.out.fr.mono (by simp)) k x hx
      by_cases hltB : k < B.length
      · obtain ⟨y, hy⟩ : ∃ v, B[k]? = some v := ⟨_, List.getElem?_eq_getElem hltB⟩
        have HD := hide (cmpL_drop A B k x y hx hy)
        obtain ⟨gb, ob, rfl, d0, d1, d2⟩ := HB.out.get (HF.out.fr.mono (by simp)) k y hy
        have gbl := World.block_lt_of_cell? w7 _ d0
        simp only at gbl
        clear hx hy
        go_wp2_with fail
        refine (cmpVals_any x y _).mono ?_
        rintro e w8 ⟨rfl, F8⟩
        have HF8 := hide ((HF.out.trans gr_two).trans F8)
        clear F8 c0 c1 c2 d0 d1 d2
        by_cases hc : cmpV x y = 0
        · have hd := HD.out
          rw [if_pos hc] at hd
          have HD2 := hide hd
          clear hd
          go_wp2
          go_roundw
          case rel => exact ⟨k + 1, by omega, by omega, by go_num, HF8.out, by rw [← HD2.out, HE.out]⟩
          case measure => simp [intOf]; omega
        · have hd := HD.out
          rw [if_neg hc, HE.out] at hd
          have HD2 := hide hd
          clear hd
          go_wp2
          go_ret
          exact ⟨by rw [HD2.out]; rfl, HF8.out⟩
      · obtain rfl : k = B.length := by omega
        have hd : cmpL A B = 1 := by
          rw [← HE.out, List.drop_length, List.drop_eq_getElem_cons hltA]
          rfl
        have HD := hide hd
        clear hd hx
        go_wp2
        go_ret
        exact ⟨by rw [HD.out]; rfl, HF.out.trans1 _⟩
    · obtain rfl : k = A.length := by omega
      by_cases hlt : A.length < B.length
      · have hd : cmpL A B = -1 := by
          rw [← HE.out, List.drop_length, List.drop_eq_getElem_cons hlt]
          rfl
        have HD := hide hd
        clear hd
        go_wp2
        go_ret
        exact ⟨by rw [HD.out]; rfl, HF.out⟩
      · have hl : A.length = B.length := by omega
        have hd : cmpL A B = 0 := by
          rw [← HE.out, List.drop_length, hl, List.drop_length]
          rfl
        have HD := hide hd
        clear hd
        go_wp2
        go_ret
        exact ⟨by rw [HD.out]; rfl, HF.out⟩
set_option maxHeartbeats 1000000 in
theorem codecCompare_any (a b : Option Addr) (ca cb : Nat) (A B : List Val) (w : World) (ha : Vals w a A) (hb : Vals w b B) (hA : A.length ≤ 140737488355328) (hB : B.length ≤ 140737488355328) :
    Calls Tryz.prog 63 #[.slice a A.length ca, .slice b B.length cb] w fun e w' => e = .returned (.int .i64 (cmpL A B)) ∧ Gr w w' := by
  have HC := hide (compareFunc_any a b ca cb A B w ha hb hA hB)
  clear ha hb
  go_enter Tryz.func63, Tryz.ntmps63
  go_wp2_with fail
  refine HC.out.mono ?_
  rintro e w' ⟨rfl, F⟩
  have HF := hide F
  clear F
  go_wp2
  go_ret
  exact ⟨rfl, HF.out⟩
end Go.Proofs.YtlapifncplbcnaaGreat
