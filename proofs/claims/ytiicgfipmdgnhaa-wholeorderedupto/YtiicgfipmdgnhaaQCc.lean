/- Values compared. -/
import Derived.Test.YtiicgfipmdgnhaaQCa
namespace Go.Proofs.Ytiicgfipmdgnhaa
open Go.RowKit
set_option maxRecDepth 100000

theorem cmpV_first (a b : Val) : firstOf [cmpI a.kind b.kind, cmpI a.num b.num, Lib.compareBytes a.text b.text] = cmpV a b := by
  rw [compareBytes_less]
  simp only [firstOf, cmpI, cmpV]
  by_cases h1 : a.kind < b.kind
  · simp [h1]
  · by_cases h2 : b.kind < a.kind
    · simp [h1, h2]
    · by_cases h3 : a.num < b.num
      · simp [h1, h2, h3]
      · by_cases h4 : b.num < a.num
        · simp [h1, h2, h3, h4]
        · simp only [h1, h2, h3, h4, if_false, if_true]
          split <;> simp

theorem Fr.trans1 {w w1 : World} (h : Fr w w1 (fun _ => False)) (o : Obj) : Fr w (w1.alloc o) (fun _ => False) := (h.trans (Fr.alloc _ _ (fun _ => False))).mono (by simp)
theorem three_ints {w : World} {g : Nat} {x y z : Int} {t : TypeId} (h : w.heap[g]? = some (.cells #[.int .i64 x, .int .i64 y, .int .i64 z] t (0, 0))) : ∀ (j : Nat) (u : Int), [x, y, z][j]? = some u → w.cell? ⟨g, j, none⟩ = some (.int .i64 u) := by
  intro j u hu
  rw [cell_of_row _ _ _ _ _ _ h]
  match j with
  | 0 => simp at hu; subst hu; rfl
  | 1 => simp at hu; subst hu; rfl
  | 2 => simp at hu; subst hu; rfl
  | j + 3 => simp at hu

set_option maxRecDepth 100000 in
set_option maxHeartbeats 2000000 in
theorem cmpVals_any (a b : Val) (w : World) : Calls Try.prog 25 #[.agg #[.int .i64 a.kind, .int .i64 a.num, .string (strOf a.text)], .agg #[.int .i64 b.kind, .int .i64 b.num, .string (strOf b.text)]] w fun e w' => e = .returned (.int .i64 (cmpV a b)) ∧ Fr w w' (fun _ => False) := by
  have HF := hide (cmpV_first a b)
  go_enter Try.func25, Try.ntmps25
  go_wp2_with fail
  have T1 := three_of (heap_alloc2_old w (.cells #[.int .i64 a.kind, .int .i64 a.num, .string (strOf a.text)] 57) (.cells #[.int .i64 b.kind, .int .i64 b.num, .string (strOf b.text)] 57))
  have T2 := three_of (heap_alloc2_new w (.cells #[.int .i64 a.kind, .int .i64 a.num, .string (strOf a.text)] 57) (.cells #[.int .i64 b.kind, .int .i64 b.num, .string (strOf b.text)] 57))
  have F2 : Fr w ((w.alloc (.cells #[.int .i64 a.kind, .int .i64 a.num, .string (strOf a.text)] 57)).alloc (.cells #[.int .i64 b.kind, .int .i64 b.num, .string (strOf b.text)] 57)) (fun _ => False) := up_two
  generalize hW : (w.alloc (.cells #[.int .i64 a.kind, .int .i64 a.num, .string (strOf a.text)] 57)).alloc (.cells #[.int .i64 b.kind, .int .i64 b.num, .string (strOf b.text)] 57) = W at *
  clear hW
  refine wp_region_K (fun _ => true) (fun V => Three V w.heap.size (.int .i64 a.kind) (.int .i64 a.num) (.string (strOf a.text)) ∧ Three V (w.heap.size + 1) (.int .i64 b.kind) (.int .i64 b.num) (.string (strOf b.text))) (by kernel_rfl) ?_
  have D0 := Fr.drew W (fun _ => False)
  have S0 : (fun V : World => Three V w.heap.size (.int .i64 a.kind) (.int .i64 a.num) (.string (strOf a.text)) ∧ Three V (w.heap.size + 1) (.int .i64 b.kind) (.int .i64 b.num) (.string (strOf b.text))) W.drew := ⟨T1.fr D0 id, T2.fr D0 id⟩
  refine wpAnyK_takeTo 0 (some 5) (.pointer (some ⟨w.heap.size, 0, none⟩)) [] rfl rfl (by kernel_rfl) (by kernel_rfl) (by kernel_rfl) (by kernel_rfl) (fun _ _ _ h => h) S0 (Or.inl ⟨rfl, fun w1 hw1 => by go_simp⟩) ?_
  simp only [Act.put, List.setIfInBounds_toArray, List.set_cons_zero, List.set_cons_succ]
  refine wpAnyK_takeTo 1 (some 6) (.int .i64 a.kind) [] rfl rfl (by kernel_rfl) (by kernel_rfl) (by kernel_rfl) (by kernel_rfl) (fun _ _ _ h => h) S0 (Or.inl ⟨rfl, fun w1 hw1 => by obtain ⟨⟨q0, q1, q2, _⟩, ⟨q3, q4, q5, _⟩⟩ := hw1; go_simp⟩) ?_
  simp only [Act.put, List.setIfInBounds_toArray, List.set_cons_zero, List.set_cons_succ]
  refine wpAnyK_takeTo 2 (some 7) (.pointer (some ⟨w.heap.size + 1, 0, none⟩)) [] rfl rfl (by kernel_rfl) (by kernel_rfl) (by kernel_rfl) (by kernel_rfl) (fun _ _ _ h => h) S0 (Or.inl ⟨rfl, fun w1 hw1 => by go_simp⟩) ?_
  simp only [Act.put, List.setIfInBounds_toArray, List.set_cons_zero, List.set_cons_succ]
  refine wpAnyK_takeTo 3 (some 8) (.int .i64 b.kind) [] rfl rfl (by kernel_rfl) (by kernel_rfl) (by kernel_rfl) (by kernel_rfl) (fun _ _ _ h => h) S0 (Or.inl ⟨rfl, fun w1 hw1 => by obtain ⟨⟨q0, q1, q2, _⟩, ⟨q3, q4, q5, _⟩⟩ := hw1; go_simp⟩) ?_
  simp only [Act.put, List.setIfInBounds_toArray, List.set_cons_zero, List.set_cons_succ]
  refine wpAnyK_takeTo 5 (some 10) (.pointer (some ⟨w.heap.size, 1, none⟩)) [] rfl rfl (by kernel_rfl) (by kernel_rfl) (by kernel_rfl) (by kernel_rfl) (fun _ _ _ h => h) S0 (Or.inl ⟨rfl, fun w1 hw1 => by go_simp⟩) ?_
  simp only [Act.put, List.setIfInBounds_toArray, List.set_cons_zero, List.set_cons_succ]
  refine wpAnyK_takeTo 6 (some 11) (.int .i64 a.num) [] rfl rfl (by kernel_rfl) (by kernel_rfl) (by kernel_rfl) (by kernel_rfl) (fun _ _ _ h => h) S0 (Or.inl ⟨rfl, fun w1 hw1 => by obtain ⟨⟨q0, q1, q2, _⟩, ⟨q3, q4, q5, _⟩⟩ := hw1; go_simp⟩) ?_
  simp only [Act.put, List.setIfInBounds_toArray, List.set_cons_zero, List.set_cons_succ]
  refine wpAnyK_takeTo 7 (some 12) (.pointer (some ⟨w.heap.size + 1, 1, none⟩)) [] rfl rfl (by kernel_rfl) (by kernel_rfl) (by kernel_rfl) (by kernel_rfl) (fun _ _ _ h => h) S0 (Or.inl ⟨rfl, fun w1 hw1 => by go_simp⟩) ?_
  simp only [Act.put, List.setIfInBounds_toArray, List.set_cons_zero, List.set_cons_succ]
  refine wpAnyK_takeTo 8 (some 13) (.int .i64 b.num) [] rfl rfl (by kernel_rfl) (by kernel_rfl) (by kernel_rfl) (by kernel_rfl) (fun _ _ _ h => h) S0 (Or.inl ⟨rfl, fun w1 hw1 => by obtain ⟨⟨q0, q1, q2, _⟩, ⟨q3, q4, q5, _⟩⟩ := hw1; go_simp⟩) ?_
  simp only [Act.put, List.setIfInBounds_toArray, List.set_cons_zero, List.set_cons_succ]
  refine wpAnyK_takeTo 10 (some 15) (.pointer (some ⟨w.heap.size, 2, none⟩)) [] rfl rfl (by kernel_rfl) (by kernel_rfl) (by kernel_rfl) (by kernel_rfl) (fun _ _ _ h => h) S0 (Or.inl ⟨rfl, fun w1 hw1 => by go_simp⟩) ?_
  simp only [Act.put, List.setIfInBounds_toArray, List.set_cons_zero, List.set_cons_succ]
  refine wpAnyK_takeTo 11 (some 16) (.string (strOf a.text)) [] rfl rfl (by kernel_rfl) (by kernel_rfl) (by kernel_rfl) (by kernel_rfl) (fun _ _ _ h => h) S0 (Or.inl ⟨rfl, fun w1 hw1 => by obtain ⟨⟨q0, q1, q2, _⟩, ⟨q3, q4, q5, _⟩⟩ := hw1; go_simp⟩) ?_
  simp only [Act.put, List.setIfInBounds_toArray, List.set_cons_zero, List.set_cons_succ]
  refine wpAnyK_takeTo 12 (some 17) (.pointer (some ⟨w.heap.size + 1, 2, none⟩)) [] rfl rfl (by kernel_rfl) (by kernel_rfl) (by kernel_rfl) (by kernel_rfl) (fun _ _ _ h => h) S0 (Or.inl ⟨rfl, fun w1 hw1 => by go_simp⟩) ?_
  simp only [Act.put, List.setIfInBounds_toArray, List.set_cons_zero, List.set_cons_succ]
  refine wpAnyK_takeTo 13 (some 18) (.string (strOf b.text)) [] rfl rfl (by kernel_rfl) (by kernel_rfl) (by kernel_rfl) (by kernel_rfl) (fun _ _ _ h => h) S0 (Or.inl ⟨rfl, fun w1 hw1 => by obtain ⟨⟨q0, q1, q2, _⟩, ⟨q3, q4, q5, _⟩⟩ := hw1; go_simp⟩) ?_
  simp only [Act.put, List.setIfInBounds_toArray, List.set_cons_zero, List.set_cons_succ]
  refine wpAnyK_one (i := 4) (by kernel_rfl) rfl rfl ?_
  refine wp_call_to (some 9) rfl 41 #[.int .i64 a.kind, .int .i64 b.kind] (by go_simp) (cmpInt_any _ _ _) ?_
  rintro e w' ⟨rfl, rfl⟩
  refine ⟨_, rfl, fun _ => S0, ?_⟩
  simp only [Act.put, List.setIfInBounds_toArray, List.set_cons_zero, List.set_cons_succ]
  refine wpAnyK_one (i := 9) (by kernel_rfl) rfl rfl ?_
  refine wp_call_to (some 14) rfl 42 #[.int .i64 a.num, .int .i64 b.num] (by go_simp) (cmpInt64_any _ _ _) ?_
  rintro e w' ⟨rfl, rfl⟩
  refine ⟨_, rfl, fun _ => S0, ?_⟩
  simp only [Act.put, List.setIfInBounds_toArray, List.set_cons_zero, List.set_cons_succ]
  refine wpAnyK_one (i := 14) (by kernel_rfl) rfl rfl ?_
  refine wp_call_to (some 19) rfl 43 #[.string (strOf a.text), .string (strOf b.text)] (by go_simp) (cmpStr_any _ _ _) ?_
  rintro e w' ⟨rfl, rfl⟩
  refine ⟨_, rfl, fun _ => S0, ?_⟩
  simp only [Act.put, List.setIfInBounds_toArray, List.set_cons_zero, List.set_cons_succ]
  refine wpAnyK_one (i := 15) (by kernel_rfl) rfl rfl ?_
  go_simp
  have D1 := (D0.trans (Fr.alloc W.drew (.cells #[.int .i64 (cmpI a.kind b.kind), .int .i64 (cmpI a.num b.num), .int .i64 (Lib.compareBytes a.text b.text)] 3) (fun _ => False))).mono (Y := fun _ => False) (by simp)
  have S1 : (fun V : World => Three V w.heap.size (.int .i64 a.kind) (.int .i64 a.num) (.string (strOf a.text)) ∧ Three V (w.heap.size + 1) (.int .i64 b.kind) (.int .i64 b.num) (.string (strOf b.text))) (W.drew.alloc (.cells #[.int .i64 (cmpI a.kind b.kind), .int .i64 (cmpI a.num b.num), .int .i64 (Lib.compareBytes a.text b.text)] 3)) := ⟨T1.fr D1 id, T2.fr D1 id⟩
  refine ⟨S1, ?_⟩
  refine wpAnyK_one (i := 16) (by kernel_rfl) rfl rfl ?_
  refine wp_call_to (some 21) rfl 40 #[.slice (some ⟨W.heap.size, 0, none⟩) 3 3] (by go_simp) (or_any W.heap.size 3 [cmpI a.kind b.kind, cmpI a.num b.num, Lib.compareBytes a.text b.text] _ (three_ints (heap_alloc_new W.drew _)) (by simp)) ?_
  rintro e w' ⟨rfl, rfl⟩
  refine ⟨_, rfl, fun _ => S1, ?_⟩
  simp only [Act.put, List.setIfInBounds_toArray, List.set_cons_zero, List.set_cons_succ]
  rw [HF.out]
  refine wpAnyK_takeTo 17 (some 4) (.int .i64 (cmpV a b)) [] rfl rfl (by kernel_rfl) (by kernel_rfl) (by kernel_rfl) (by kernel_rfl) (fun _ _ _ h => h) S1 (Or.inl ⟨rfl, fun w1 hw1 => by go_simp⟩) ?_
  simp only [Act.put, List.setIfInBounds_toArray, List.set_cons_zero, List.set_cons_succ]
  refine wpAnyK_done (by kernel_rfl) ?_ _
  go_wp2
  go_ret
  exact ⟨rfl, (F2.trans D1).mono (by simp)⟩

set_option maxRecDepth 100000 in
set_option maxHeartbeats 2000000 in
theorem compareFunc_any (a b : Option Addr) (ca cb : Nat) (A B : List Val) (w : World) (ha : Vals w a A) (hb : Vals w b B) (hA : A.length ≤ 140737488355328) (hB : B.length ≤ 140737488355328) :
    Calls Try.prog 24 #[.slice a A.length ca, .slice b B.length cb, .func (.func 25) #[] #[]] w fun e w' => e = .returned (.int .i64 (cmpL A B)) ∧ Fr w w' (fun _ => False) := by
  have HA := hide ha
  have HB := hide hb
  clear ha hb
  go_enter Try.func24, Try.ntmps24
  go_wp2
  go_loopw [13] (fun i wr => ∃ k : Nat, k ≤ A.length ∧ k ≤ B.length ∧ i = .int .i64 k ∧ Fr w wr (fun _ => False) ∧ cmpL (A.drop k) (B.drop k) = cmpL A B) (fun i _ => A.length - (intOf i).toNat)
  case atStart => exact ⟨0, by omega, by omega, rfl, Fr.refl _ _, rfl⟩
  case round =>
    rename World => w7
    obtain ⟨k, hkA, hkB, rfl, hf, he⟩ := hrel
    have HF := hide hf
    have HE := hide he
    clear hf he
    by_cases hltA : k < A.length
    · obtain ⟨x, hx⟩ : ∃ v, A[k]? = some v := ⟨_, List.getElem?_eq_getElem hltA⟩
      obtain ⟨ga, oa, rfl, c0, c1, c2⟩ := HA.out.get (HF.out.mono (by simp)) k x hx
      by_cases hltB : k < B.length
      · obtain ⟨y, hy⟩ : ∃ v, B[k]? = some v := ⟨_, List.getElem?_eq_getElem hltB⟩
        have HD := hide (cmpL_drop A B k x y hx hy)
        obtain ⟨gb, ob, rfl, d0, d1, d2⟩ := HB.out.get (HF.out.mono (by simp)) k y hy
        have gbl := World.block_lt_of_cell? w7 _ d0
        simp only at gbl
        clear hx hy
        go_wp2_with fail
        refine (cmpVals_any x y _).mono ?_
        rintro e w8 ⟨rfl, F8⟩
        have HF8 := hide (((HF.out.trans up_two).trans F8).mono (Y := fun _ => False) (by simp))
        clear F8 c0 c1 c2 d0 d1 d2
        by_cases hc : cmpV x y = 0
        · have hd := HD.out
          rw [if_pos hc] at hd
          have HD2 := hide hd
          clear hd
          go_wp2
          go_roundw
          case rel => exact ⟨k + 1, by omega, by omega, by go_num, HF8.out, by rw [← HD2.out, HE.out]⟩
          case measure => simp [intOf]; omega
        · have hd := HD.out
          rw [if_neg hc, HE.out] at hd
          have HD2 := hide hd
          clear hd
          go_wp2
          go_ret
          exact ⟨by rw [HD2.out]; rfl, HF8.out⟩
      · obtain rfl : k = B.length := by omega
        have hd : cmpL A B = 1 := by
          rw [← HE.out, List.drop_length, List.drop_eq_getElem_cons hltA]
          rfl
        have HD := hide hd
        clear hd hx
        go_wp2
        go_ret
        exact ⟨by rw [HD.out]; rfl, HF.out.trans1 _⟩
    · obtain rfl : k = A.length := by omega
      by_cases hlt : A.length < B.length
      · have hd : cmpL A B = -1 := by
          rw [← HE.out, List.drop_length, List.drop_eq_getElem_cons hlt]
          rfl
        have HD := hide hd
        clear hd
        go_wp2
        go_ret
        exact ⟨by rw [HD.out]; rfl, HF.out⟩
      · have hl : A.length = B.length := by omega
        have hd : cmpL A B = 0 := by
          rw [← HE.out, List.drop_length, hl, List.drop_length]
          rfl
        have HD := hide hd
        clear hd
        go_wp2
        go_ret
        exact ⟨by rw [HD.out]; rfl, HF.out⟩

set_option maxHeartbeats 1000000 in
theorem codecCompare_any (a b : Option Addr) (ca cb : Nat) (A B : List Val) (w : World) (ha : Vals w a A) (hb : Vals w b B) (hA : A.length ≤ 140737488355328) (hB : B.length ≤ 140737488355328) :
    Calls Try.prog 11 #[.slice a A.length ca, .slice b B.length cb] w fun e w' => e = .returned (.int .i64 (cmpL A B)) ∧ Fr w w' (fun _ => False) := by
  have HC := hide (compareFunc_any a b ca cb A B w ha hb hA hB)
  clear ha hb
  go_enter Try.func11, Try.ntmps11
  go_wp2_with fail
  refine HC.out.mono ?_
  rintro e w' ⟨rfl, F⟩
  have HF := hide F
  clear F
  go_wp2
  go_ret
  exact ⟨rfl, HF.out⟩
end Go.Proofs.Ytiicgfipmdgnhaa
