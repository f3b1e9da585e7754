/- pairs: two rows told are the same. -/
import Derived.Test.YtaonhgabnbmcfaaZd
import Derived.Deep.QuietTactic
import Derived.BigQuiet
namespace Go.Proofs.Ytaonhgabnbmcfaa
open Go.RowKit
set_option maxRecDepth 100000
set_option linter.unusedVariables false
set_option linter.unusedSimpArgs false

theorem its_row46 {w : World} {base : Nat} {a : Option Addr} {n c : Nat} {L : List It} (h : w.ownsRow base 46 2 (.slice a n c) n (encI L)) : ItsIn w a L := fun i x hi => by
  have h0 := ownsRow_base h (Nat.zero_le _)
  obtain ⟨h1, h2⟩ := encI_get L i x hi
  obtain ⟨g, e1, c1⟩ := row_cell h0 h1
  obtain ⟨g', e2, c2⟩ := row_cell h0 h2
  cases e1
  cases e2
  exact ⟨g, rfl, c1, c2⟩
/-- A row of pairs, wherever it lies. -/
def PairsV (w : World) (v : Value) (L : List It) : Prop := ∃ a c, v = .slice a L.length c ∧ ItsIn w a L
theorem PairsV.of {w : World} {base : Nat} {v : Value} {n : Nat} {L : List It} (h : w.ownsRow base 46 2 v n (encI L)) (hn : n = L.length) : PairsV w v L := by
  subst hn
  obtain ⟨a, c, rfl⟩ := shape_n (ownsRow_base h (Nat.zero_le _))
  exact ⟨a, c, rfl, its_row46 h⟩
theorem PairsV.fr {w w' : World} {v : Value} {L : List It} (h : PairsV w v L) (hf : Fr w w' (fun _ => False)) : PairsV w' v L := by
  obtain ⟨a, c, e, hi⟩ := h
  exact ⟨a, c, e, hi.fr hf⟩
def SameQ (A B : List It) (w : World) (e : Ending) (w' : World) : Prop := ∃ b : Bool, e = .returned (.bool b) ∧ (b = true ↔ A = B) ∧ Fr w w' (fun _ => False)
theorem It.ext' {x y : It} (h1 : x.key = y.key) (h2 : x.val = y.val) : x = y := by cases x; cases y; simp at h1 h2; rw [h1, h2]
set_option maxHeartbeats 4000000 in
theorem pairs_any {w : World} {va vb : Value} {A B : List It} (hA : PairsV w va A) (hB : PairsV w vb B) (hla : A.length ≤ 4398046511104) : Calls Try.prog 14 #[va, vb] w (SameQ A B w) := by
  obtain ⟨a, c, rfl, ia⟩ := hA
  obtain ⟨a', c', rfl, ib⟩ := hB
  obtain ⟨n, hn⟩ : ∃ n, A.length = n := ⟨_, rfl⟩
  obtain ⟨m, hm⟩ : ∃ m, B.length = m := ⟨_, rfl⟩
  have HN := hide hn
  have HM := hide hm
  rw [hn] at hla
  rw [hn, hm]
  have HIA := hide ia
  have HIB := hide ib
  clear ia ib hn hm
  by_cases hnm : n = m
  · subst hnm
    go_enter Try.func14, Try.ntmps14
    go_wp2
    go_loopw [13] (fun vi wr => ∃ i : Nat, i ≤ n ∧ vi = .int .i64 (i : Int) ∧ A.take i = B.take i ∧ Fr w wr (fun _ => False)) (fun vi _ => n - (intOf vi).toNat)
    case atStart => exact ⟨0, Nat.zero_le _, rfl, rfl, Fr.refl _ _⟩
    case round =>
      obtain ⟨i, hin, rfl, htk, hf⟩ := hrel
      rename World => V
      have HTK := hide htk
      have HF := hide hf
      clear htk hf
      by_cases hlt : i < n
      · obtain ⟨⟨xk, xv⟩, hx⟩ : ∃ x, A[i]? = some x := ⟨_, List.getElem?_eq_getElem (by rw [HN.out]; exact hlt)⟩
        obtain ⟨⟨yk, yv⟩, hy⟩ : ∃ x, B[i]? = some x := ⟨_, List.getElem?_eq_getElem (by rw [HM.out]; exact hlt)⟩
        obtain ⟨g, rfl, p1, p2⟩ := HIA.out.fr HF.out i _ hx
        obtain ⟨g', rfl, q1, q2⟩ := HIB.out.fr HF.out i _ hy
        have HX := hide hx
        have HY := hide hy
        clear hx hy
        have p1 := (Fr.drew V (fun _ => False)).cell (fun h => h) p1
        have p2 := (Fr.drew V (fun _ => False)).cell (fun h => h) p2
        have q1 := (Fr.drew V (fun _ => False)).cell (fun h => h) q1
        have q2 := (Fr.drew V (fun _ => False)).cell (fun h => h) q2
        have HD := hide (HF.out.two (Fr.drew V (fun _ => False)))
        dsimp only at p1 p2 q1 q2
        clear HF
        by_cases k1 : xk = yk
        · subst k1
          by_cases k2 : xv = yv
          · subst k2
            go_wp2_with fail
            refine wp_region_K (fun _ => true) (fun U : World => U = V.drew) (by kernel_rfl) ?_
            have hS : (fun U : World => U = V.drew) V.drew := rfl
            refine wpAnyK_takeTo 0 (some 16) (.slice (some ⟨g, 0, none⟩) n c) [2, 3, 8] rfl rfl (by kernel_rfl) (by kernel_rfl) (by kernel_rfl) (by kernel_rfl) (fun _ _ _ h => h) hS (Or.inl ⟨rfl, fun w1 hw1 => by have hw1 : w1 = V.drew := hw1; subst hw1; go_simp⟩) ?_
            simp only [Act.put, List.setIfInBounds_toArray, List.set_cons_zero, List.set_cons_succ]
            refine wpAnyK_takeTo 1 (some 17) (.int .i64 (i : Int)) [2, 3, 8] rfl rfl (by kernel_rfl) (by kernel_rfl) (by kernel_rfl) (by kernel_rfl) (fun _ _ _ h => h) hS (Or.inl ⟨rfl, fun w1 hw1 => by have hw1 : w1 = V.drew := hw1; subst hw1; go_simp⟩) ?_
            simp only [Act.put, List.setIfInBounds_toArray, List.set_cons_zero, List.set_cons_succ]
            refine wpAnyK_takeTo 2 (some 18) (.pointer (some ⟨g, i * 2, none⟩)) [3, 8] rfl rfl (by kernel_rfl) (by kernel_rfl) (by kernel_rfl) (by kernel_rfl) (fun _ _ _ h => h) hS (Or.inl ⟨rfl, fun w1 hw1 => by have hw1 : w1 = V.drew := hw1; subst hw1; go_simp⟩) ?_
            simp only [Act.put, List.setIfInBounds_toArray, List.set_cons_zero, List.set_cons_succ]
            refine wpAnyK_takeTo 3 (some 19) (.agg #[.string xk, .int .i64 xv]) [8] rfl rfl (by kernel_rfl) (by kernel_rfl) (by kernel_rfl) (by kernel_rfl) (fun _ _ _ h => h) hS (Or.inl ⟨rfl, fun w1 hw1 => by have hw1 : w1 = V.drew := hw1; subst hw1; go_simp⟩) ?_
            simp only [Act.put, List.setIfInBounds_toArray, List.set_cons_zero, List.set_cons_succ]
            refine wpAnyK_takeTo 4 (some 20) (.slice (some ⟨g', 0, none⟩) n c') [6, 7, 8] rfl rfl (by kernel_rfl) (by kernel_rfl) (by kernel_rfl) (by kernel_rfl) (fun _ _ _ h => h) hS (Or.inl ⟨rfl, fun w1 hw1 => by have hw1 : w1 = V.drew := hw1; subst hw1; go_simp⟩) ?_
            simp only [Act.put, List.setIfInBounds_toArray, List.set_cons_zero, List.set_cons_succ]
            refine wpAnyK_takeTo 5 (some 21) (.int .i64 (i : Int)) [6, 7, 8] rfl rfl (by kernel_rfl) (by kernel_rfl) (by kernel_rfl) (by kernel_rfl) (fun _ _ _ h => h) hS (Or.inl ⟨rfl, fun w1 hw1 => by have hw1 : w1 = V.drew := hw1; subst hw1; go_simp⟩) ?_
            simp only [Act.put, List.setIfInBounds_toArray, List.set_cons_zero, List.set_cons_succ]
            refine wpAnyK_takeTo 6 (some 22) (.pointer (some ⟨g', i * 2, none⟩)) [7, 8] rfl rfl (by kernel_rfl) (by kernel_rfl) (by kernel_rfl) (by kernel_rfl) (fun _ _ _ h => h) hS (Or.inl ⟨rfl, fun w1 hw1 => by have hw1 : w1 = V.drew := hw1; subst hw1; go_simp⟩) ?_
            simp only [Act.put, List.setIfInBounds_toArray, List.set_cons_zero, List.set_cons_succ]
            refine wpAnyK_takeTo 7 (some 23) (.agg #[.string xk, .int .i64 xv]) [8] rfl rfl (by kernel_rfl) (by kernel_rfl) (by kernel_rfl) (by kernel_rfl) (fun _ _ _ h => h) hS (Or.inl ⟨rfl, fun w1 hw1 => by have hw1 : w1 = V.drew := hw1; subst hw1; go_simp⟩) ?_
            simp only [Act.put, List.setIfInBounds_toArray, List.set_cons_zero, List.set_cons_succ]
            refine wpAnyK_takeTo 8 (some 24) (.bool false) [] rfl rfl (by kernel_rfl) (by kernel_rfl) (by kernel_rfl) (by kernel_rfl) (fun _ _ _ h => h) hS (Or.inl ⟨rfl, fun w1 hw1 => by have hw1 : w1 = V.drew := hw1; subst hw1; go_simp⟩) ?_
            simp only [Act.put, List.setIfInBounds_toArray, List.set_cons_zero, List.set_cons_succ]
            clear hS p1 p2 q1 q2
            refine wpAnyK_done (by kernel_rfl) ?_ _
            go_wp2
            go_roundw
            case rel => exact ⟨i + 1, by omega, by go_num, by rw [List.take_add_one, List.take_add_one, HTK.out, HX.out, HY.out], HD.out⟩
            case measure => simp [intOf]; omega
          · have HNE : Hid (¬ A = B) := hide (fun e => k2 (by have h := HX.out; rw [e, HY.out] at h; injection h with h; injection h with _ h; exact h.symm))
            have k2b : (xv == yv) = false := by simpa using k2
            go_wp2_with fail
            refine wp_region_K (fun _ => true) (fun U : World => U = V.drew) (by kernel_rfl) ?_
            have hS : (fun U : World => U = V.drew) V.drew := rfl
            refine wpAnyK_takeTo 0 (some 16) (.slice (some ⟨g, 0, none⟩) n c) [2, 3, 8] rfl rfl (by kernel_rfl) (by kernel_rfl) (by kernel_rfl) (by kernel_rfl) (fun _ _ _ h => h) hS (Or.inl ⟨rfl, fun w1 hw1 => by have hw1 : w1 = V.drew := hw1; subst hw1; go_simp⟩) ?_
            simp only [Act.put, List.setIfInBounds_toArray, List.set_cons_zero, List.set_cons_succ]
            refine wpAnyK_takeTo 1 (some 17) (.int .i64 (i : Int)) [2, 3, 8] rfl rfl (by kernel_rfl) (by kernel_rfl) (by kernel_rfl) (by kernel_rfl) (fun _ _ _ h => h) hS (Or.inl ⟨rfl, fun w1 hw1 => by have hw1 : w1 = V.drew := hw1; subst hw1; go_simp⟩) ?_
            simp only [Act.put, List.setIfInBounds_toArray, List.set_cons_zero, List.set_cons_succ]
            refine wpAnyK_takeTo 2 (some 18) (.pointer (some ⟨g, i * 2, none⟩)) [3, 8] rfl rfl (by kernel_rfl) (by kernel_rfl) (by kernel_rfl) (by kernel_rfl) (fun _ _ _ h => h) hS (Or.inl ⟨rfl, fun w1 hw1 => by have hw1 : w1 = V.drew := hw1; subst hw1; go_simp⟩) ?_
            simp only [Act.put, List.setIfInBounds_toArray, List.set_cons_zero, List.set_cons_succ]
            refine wpAnyK_takeTo 3 (some 19) (.agg #[.string xk, .int .i64 xv]) [8] rfl rfl (by kernel_rfl) (by kernel_rfl) (by kernel_rfl) (by kernel_rfl) (fun _ _ _ h => h) hS (Or.inl ⟨rfl, fun w1 hw1 => by have hw1 : w1 = V.drew := hw1; subst hw1; go_simp⟩) ?_
            simp only [Act.put, List.setIfInBounds_toArray, List.set_cons_zero, List.set_cons_succ]
            refine wpAnyK_takeTo 4 (some 20) (.slice (some ⟨g', 0, none⟩) n c') [6, 7, 8] rfl rfl (by kernel_rfl) (by kernel_rfl) (by kernel_rfl) (by kernel_rfl) (fun _ _ _ h => h) hS (Or.inl ⟨rfl, fun w1 hw1 => by have hw1 : w1 = V.drew := hw1; subst hw1; go_simp⟩) ?_
            simp only [Act.put, List.setIfInBounds_toArray, List.set_cons_zero, List.set_cons_succ]
            refine wpAnyK_takeTo 5 (some 21) (.int .i64 (i : Int)) [6, 7, 8] rfl rfl (by kernel_rfl) (by kernel_rfl) (by kernel_rfl) (by kernel_rfl) (fun _ _ _ h => h) hS (Or.inl ⟨rfl, fun w1 hw1 => by have hw1 : w1 = V.drew := hw1; subst hw1; go_simp⟩) ?_
            simp only [Act.put, List.setIfInBounds_toArray, List.set_cons_zero, List.set_cons_succ]
            refine wpAnyK_takeTo 6 (some 22) (.pointer (some ⟨g', i * 2, none⟩)) [7, 8] rfl rfl (by kernel_rfl) (by kernel_rfl) (by kernel_rfl) (by kernel_rfl) (fun _ _ _ h => h) hS (Or.inl ⟨rfl, fun w1 hw1 => by have hw1 : w1 = V.drew := hw1; subst hw1; go_simp⟩) ?_
            simp only [Act.put, List.setIfInBounds_toArray, List.set_cons_zero, List.set_cons_succ]
            refine wpAnyK_takeTo 7 (some 23) (.agg #[.string xk, .int .i64 yv]) [8] rfl rfl (by kernel_rfl) (by kernel_rfl) (by kernel_rfl) (by kernel_rfl) (fun _ _ _ h => h) hS (Or.inl ⟨rfl, fun w1 hw1 => by have hw1 : w1 = V.drew := hw1; subst hw1; go_simp⟩) ?_
            simp only [Act.put, List.setIfInBounds_toArray, List.set_cons_zero, List.set_cons_succ]
            refine wpAnyK_takeTo 8 (some 24) (.bool true) [] rfl rfl (by kernel_rfl) (by kernel_rfl) (by kernel_rfl) (by kernel_rfl) (fun _ _ _ h => h) hS (Or.inl ⟨rfl, fun w1 hw1 => by have hw1 : w1 = V.drew := hw1; subst hw1; go_simp⟩) ?_
            simp only [Act.put, List.setIfInBounds_toArray, List.set_cons_zero, List.set_cons_succ]
            clear hS p1 p2 q1 q2
            refine wpAnyK_done (by kernel_rfl) ?_ _
            go_wp2
            go_ret
            exact ⟨false, rfl, ⟨fun h => (by cases h), fun h => absurd h HNE.out⟩, HD.out⟩
        · have HNE : Hid (¬ A = B) := hide (fun e => k1 (by have h := HX.out; rw [e, HY.out] at h; injection h with h; injection h with h _; exact h.symm))
          have k3b : (xk.toList == yk.toList) = false := beq_eq_false_iff_ne.2 (fun h => k1 (by rw [ByteArray.toList_eq, ByteArray.toList_eq] at h; cases xk; cases yk; simp only at h; rw [Array.toList_inj.1 h]))
          have k3l : ¬ (xk.toList = yk.toList) := by simpa using k3b
          clear k1
          go_wp2_with fail
          refine wp_region_K (fun _ => true) (fun U : World => U = V.drew) (by kernel_rfl) ?_
          have hS : (fun U : World => U = V.drew) V.drew := rfl
          refine wpAnyK_takeTo 0 (some 16) (.slice (some ⟨g, 0, none⟩) n c) [2, 3, 8] rfl rfl (by kernel_rfl) (by kernel_rfl) (by kernel_rfl) (by kernel_rfl) (fun _ _ _ h => h) hS (Or.inl ⟨rfl, fun w1 hw1 => by have hw1 : w1 = V.drew := hw1; subst hw1; go_simp⟩) ?_
          simp only [Act.put, List.setIfInBounds_toArray, List.set_cons_zero, List.set_cons_succ]
          refine wpAnyK_takeTo 1 (some 17) (.int .i64 (i : Int)) [2, 3, 8] rfl rfl (by kernel_rfl) (by kernel_rfl) (by kernel_rfl) (by kernel_rfl) (fun _ _ _ h => h) hS (Or.inl ⟨rfl, fun w1 hw1 => by have hw1 : w1 = V.drew := hw1; subst hw1; go_simp⟩) ?_
          simp only [Act.put, List.setIfInBounds_toArray, List.set_cons_zero, List.set_cons_succ]
          refine wpAnyK_takeTo 2 (some 18) (.pointer (some ⟨g, i * 2, none⟩)) [3, 8] rfl rfl (by kernel_rfl) (by kernel_rfl) (by kernel_rfl) (by kernel_rfl) (fun _ _ _ h => h) hS (Or.inl ⟨rfl, fun w1 hw1 => by have hw1 : w1 = V.drew := hw1; subst hw1; go_simp⟩) ?_
          simp only [Act.put, List.setIfInBounds_toArray, List.set_cons_zero, List.set_cons_succ]
          refine wpAnyK_takeTo 3 (some 19) (.agg #[.string xk, .int .i64 xv]) [8] rfl rfl (by kernel_rfl) (by kernel_rfl) (by kernel_rfl) (by kernel_rfl) (fun _ _ _ h => h) hS (Or.inl ⟨rfl, fun w1 hw1 => by have hw1 : w1 = V.drew := hw1; subst hw1; go_simp⟩) ?_
          simp only [Act.put, List.setIfInBounds_toArray, List.set_cons_zero, List.set_cons_succ]
          refine wpAnyK_takeTo 4 (some 20) (.slice (some ⟨g', 0, none⟩) n c') [6, 7, 8] rfl rfl (by kernel_rfl) (by kernel_rfl) (by kernel_rfl) (by kernel_rfl) (fun _ _ _ h => h) hS (Or.inl ⟨rfl, fun w1 hw1 => by have hw1 : w1 = V.drew := hw1; subst hw1; go_simp⟩) ?_
          simp only [Act.put, List.setIfInBounds_toArray, List.set_cons_zero, List.set_cons_succ]
          refine wpAnyK_takeTo 5 (some 21) (.int .i64 (i : Int)) [6, 7, 8] rfl rfl (by kernel_rfl) (by kernel_rfl) (by kernel_rfl) (by kernel_rfl) (fun _ _ _ h => h) hS (Or.inl ⟨rfl, fun w1 hw1 => by have hw1 : w1 = V.drew := hw1; subst hw1; go_simp⟩) ?_
          simp only [Act.put, List.setIfInBounds_toArray, List.set_cons_zero, List.set_cons_succ]
          refine wpAnyK_takeTo 6 (some 22) (.pointer (some ⟨g', i * 2, none⟩)) [7, 8] rfl rfl (by kernel_rfl) (by kernel_rfl) (by kernel_rfl) (by kernel_rfl) (fun _ _ _ h => h) hS (Or.inl ⟨rfl, fun w1 hw1 => by have hw1 : w1 = V.drew := hw1; subst hw1; go_simp⟩) ?_
          simp only [Act.put, List.setIfInBounds_toArray, List.set_cons_zero, List.set_cons_succ]
          refine wpAnyK_takeTo 7 (some 23) (.agg #[.string yk, .int .i64 yv]) [8] rfl rfl (by kernel_rfl) (by kernel_rfl) (by kernel_rfl) (by kernel_rfl) (fun _ _ _ h => h) hS (Or.inl ⟨rfl, fun w1 hw1 => by have hw1 : w1 = V.drew := hw1; subst hw1; go_simp⟩) ?_
          simp only [Act.put, List.setIfInBounds_toArray, List.set_cons_zero, List.set_cons_succ]
          refine wpAnyK_takeTo 8 (some 24) (.bool true) [] rfl rfl (by kernel_rfl) (by kernel_rfl) (by kernel_rfl) (by kernel_rfl) (fun _ _ _ h => h) hS (Or.inl ⟨rfl, fun w1 hw1 => by have hw1 : w1 = V.drew := hw1; subst hw1; go_simp⟩) ?_
          simp only [Act.put, List.setIfInBounds_toArray, List.set_cons_zero, List.set_cons_succ]
          clear hS p1 p2 q1 q2
          refine wpAnyK_done (by kernel_rfl) ?_ _
          go_wp2
          go_ret
          exact ⟨false, rfl, ⟨fun h => (by cases h), fun h => absurd h HNE.out⟩, HD.out⟩
      · have hin2 : i = n := by omega
        have HI := hide hin2
        clear hin2
        go_wp2
        go_ret
        exact ⟨true, rfl, ⟨fun _ => by
          have h := HTK.out
          rw [HI.out, ← HN.out, List.take_of_length_le (Nat.le_refl _), HN.out, ← HM.out, List.take_of_length_le (Nat.le_refl _)] at h
          exact h, fun _ => rfl⟩, HF.out⟩
  · have hq : ¬ ((n : Int) = (m : Int)) := by omega
    have hqb : ((n : Int) == (m : Int)) = false := by simpa using hq
    have hqn : ((n : Int) != (m : Int)) = true := by simpa using hq
    have HNE : Hid (¬ A = B) := hide (fun e => hnm (by rw [← HN.out, ← HM.out, e]))
    clear hnm
    go_enter Try.func14, Try.ntmps14
    go_wp2
    go_ret
    exact ⟨false, rfl, ⟨fun h => (by cases h), fun h => absurd h HNE.out⟩, Fr.refl _ _⟩
end Go.Proofs.Ytaonhgabnbmcfaa
