/- The document's shares. -/
import Derived.Test.YtiooacaplajidaaOc
namespace Go.Proofs.Ytiooacaplajidaa
open Go.RowKit Go.Maps
set_option maxRecDepth 100000
set_option linter.unusedVariables false
set_option linter.unusedSimpArgs false

def Meet (A B : List ByteArray) : Prop := ∃ x ∈ A, x ∈ B
set_option maxHeartbeats 4000000 in
theorem shares_ref {w : World} {P1 P2 : Nat → Prop} (a1 : Option Addr) (n1 c1 : Nat) (A : List ByteArray) (a2 : Option Addr) (n2 c2 : Nat) (B : List ByteArray) (hA : StrsIn P1 w a1 A) (hn1 : A.length = n1) (hB : StrsIn P2 w a2 B) (hn2 : B.length = n2) (h1 : n1 ≤ 4611686018427387904) (h2 : n2 ≤ 4611686018427387904) :
    Calls Try.prog 36 #[.slice a1 n1 c1, .slice a2 n2 c2] w fun e w' => ((Meet A B ∧ e = .returned (.bool true)) ∨ (¬ Meet A B ∧ e = .returned (.bool false))) ∧ Fr w w' (fun _ => False) := by
  have HA := hide (hA.impB (Q' := fun k => True) (fun _ _ _ => trivial))
  have HB := hide (hB.impB (Q' := fun k => True) (fun _ _ _ => trivial))
  have HN1 := hide hn1
  have HN2 := hide hn2
  clear hA hB hn1 hn2
  go_enter Try.func36, Try.ntmps36
  go_wp2
  go_loopw [5] (fun i wr => ∃ j : Nat, j ≤ n1 ∧ i = .int .i64 (j : Int) ∧ (∀ (k : Nat) (x : ByteArray), k < j → A[k]? = some x → x ∉ B) ∧ Fr w wr (fun _ => False)) (fun i _ => n1 - (intOf i).toNat)
  case atStart => exact ⟨0, Nat.zero_le _, rfl, fun k x hk => by omega, Fr.refl _ _⟩
  case round =>
    rename World => W1
    obtain ⟨j, hj, rfl, hall, hw⟩ := hrel
    have HAL := hide hall
    have HW := hide hw
    clear hall hw
    rcases Nat.lt_or_ge j n1 with hlt | hge
    · obtain ⟨x, hx⟩ : ∃ x, A[j]? = some x := ⟨_, List.getElem?_eq_getElem (by rw [HN1.out]; exact hlt)⟩
      have HX := hide hx
      clear hx
      go_wp2
      go_loopw [6] (fun i wr => ∃ q : Nat, q ≤ n2 ∧ i = .int .i64 (q : Int) ∧ (∀ (k : Nat) (y : ByteArray), k < q → B[k]? = some y → x ≠ y) ∧ Fr w wr (fun _ => False)) (fun i _ => n2 - (intOf i).toNat)
      case atStart => exact ⟨0, Nat.zero_le _, rfl, fun k y hk => by omega, HW.out⟩
      case round =>
        rename World => W2
        obtain ⟨q, hq, rfl, hall2, hw2⟩ := hrel
        have HAL2 := hide hall2
        have HW2 := hide hw2
        clear hall2 hw2
        rcases Nat.lt_or_ge q n2 with hlt2 | hge2
        · obtain ⟨y, hy⟩ : ∃ y, B[q]? = some y := ⟨_, List.getElem?_eq_getElem (by rw [HN2.out]; exact hlt2)⟩
          have D := Fr.drew W2 (fun _ => False)
          obtain ⟨ga, oa, hga, _, ca, _⟩ := (HA.out.fr (HW2.out.two D) (fun _ _ h => h)) j x HX.out
          obtain ⟨gb, ob, hgb, _, cb, _⟩ := (HB.out.fr (HW2.out.two D) (fun _ _ h => h)) q y hy
          subst hga hgb
          have HY := hide hy
          have HD := hide (HW2.out.two D)
          clear hy D HW2
          go_wp2_with fail
          refine wp_region_K (fun _ => true) (fun U : World => U = W2.drew) (by kernel_rfl) ?_
          generalize W2.drew = U at *
          have hS : (fun V : World => V = U) U := rfl
          by_cases he : x = y
          · have heb : (x.toList == y.toList) = true := by simp [he]
            have HE := hide he
            clear he
            refine wpAnyK_takeTo 0 (some 19) (.slice (some ⟨ga, oa, none⟩) n1 c1) [2, 3, 8] rfl rfl (by kernel_rfl) (by kernel_rfl) (by kernel_rfl) (by kernel_rfl) (fun _ _ _ h => h) hS (Or.inl ⟨rfl, fun w1 hw1 => by have hw1 : w1 = U := hw1; subst hw1; go_simp⟩) ?_
            simp only [Act.put, List.setIfInBounds_toArray, List.set_cons_zero, List.set_cons_succ]
            refine wpAnyK_takeTo 1 (some 20) (.int .i64 (j : Int)) [2, 3, 8] rfl rfl (by kernel_rfl) (by kernel_rfl) (by kernel_rfl) (by kernel_rfl) (fun _ _ _ h => h) hS (Or.inl ⟨rfl, fun w1 hw1 => by have hw1 : w1 = U := hw1; subst hw1; go_simp⟩) ?_
            simp only [Act.put, List.setIfInBounds_toArray, List.set_cons_zero, List.set_cons_succ]
            refine wpAnyK_takeTo 2 (some 21) (.pointer (some ⟨ga, oa + j, none⟩)) [3, 8] rfl rfl (by kernel_rfl) (by kernel_rfl) (by kernel_rfl) (by kernel_rfl) (fun _ _ _ h => h) hS (Or.inl ⟨rfl, fun w1 hw1 => by have hw1 : w1 = U := hw1; subst hw1; go_simp⟩) ?_
            simp only [Act.put, List.setIfInBounds_toArray, List.set_cons_zero, List.set_cons_succ]
            refine wpAnyK_takeTo 3 (some 22) (.string x) [8] rfl rfl (by kernel_rfl) (by kernel_rfl) (by kernel_rfl) (by kernel_rfl) (fun _ _ _ h => h) hS (Or.inl ⟨rfl, fun w1 hw1 => by have hw1 : w1 = U := hw1; subst hw1; go_simp⟩) ?_
            simp only [Act.put, List.setIfInBounds_toArray, List.set_cons_zero, List.set_cons_succ]
            refine wpAnyK_takeTo 4 (some 23) (.slice (some ⟨gb, ob, none⟩) n2 c2) [6, 7, 8] rfl rfl (by kernel_rfl) (by kernel_rfl) (by kernel_rfl) (by kernel_rfl) (fun _ _ _ h => h) hS (Or.inl ⟨rfl, fun w1 hw1 => by have hw1 : w1 = U := hw1; subst hw1; go_simp⟩) ?_
            simp only [Act.put, List.setIfInBounds_toArray, List.set_cons_zero, List.set_cons_succ]
            refine wpAnyK_takeTo 5 (some 24) (.int .i64 (q : Int)) [6, 7, 8] rfl rfl (by kernel_rfl) (by kernel_rfl) (by kernel_rfl) (by kernel_rfl) (fun _ _ _ h => h) hS (Or.inl ⟨rfl, fun w1 hw1 => by have hw1 : w1 = U := hw1; subst hw1; go_simp⟩) ?_
            simp only [Act.put, List.setIfInBounds_toArray, List.set_cons_zero, List.set_cons_succ]
            refine wpAnyK_takeTo 6 (some 25) (.pointer (some ⟨gb, ob + q, none⟩)) [7, 8] rfl rfl (by kernel_rfl) (by kernel_rfl) (by kernel_rfl) (by kernel_rfl) (fun _ _ _ h => h) hS (Or.inl ⟨rfl, fun w1 hw1 => by have hw1 : w1 = U := hw1; subst hw1; go_simp⟩) ?_
            simp only [Act.put, List.setIfInBounds_toArray, List.set_cons_zero, List.set_cons_succ]
            refine wpAnyK_takeTo 7 (some 26) (.string y) [8] rfl rfl (by kernel_rfl) (by kernel_rfl) (by kernel_rfl) (by kernel_rfl) (fun _ _ _ h => h) hS (Or.inl ⟨rfl, fun w1 hw1 => by have hw1 : w1 = U := hw1; subst hw1; go_simp⟩) ?_
            simp only [Act.put, List.setIfInBounds_toArray, List.set_cons_zero, List.set_cons_succ]
            refine wpAnyK_takeTo 8 (some 27) (.bool true) [] rfl rfl (by kernel_rfl) (by kernel_rfl) (by kernel_rfl) (by kernel_rfl) (fun _ _ _ h => h) hS (Or.inl ⟨rfl, fun w1 hw1 => by have hw1 : w1 = U := hw1; subst hw1; go_simp⟩) ?_
            simp only [Act.put, List.setIfInBounds_toArray, List.set_cons_zero, List.set_cons_succ]
            refine wpAnyK_done (by kernel_rfl) ?_ _
            clear hS ca cb
            go_wp2
            go_ret
            exact ⟨.inl ⟨⟨x, List.mem_of_getElem? HX.out, by rw [HE.out]; exact List.mem_of_getElem? HY.out⟩, rfl⟩, HD.out⟩
          · have heb : (x.toList == y.toList) = false := (Go.Lib.bytes_beq_false_iff x y).2 he
            have hnl : ¬ (x.toList = y.toList) := by simpa using heb
            have HE := hide he
            clear he
            refine wpAnyK_takeTo 0 (some 19) (.slice (some ⟨ga, oa, none⟩) n1 c1) [2, 3, 8] rfl rfl (by kernel_rfl) (by kernel_rfl) (by kernel_rfl) (by kernel_rfl) (fun _ _ _ h => h) hS (Or.inl ⟨rfl, fun w1 hw1 => by have hw1 : w1 = U := hw1; subst hw1; go_simp⟩) ?_
            simp only [Act.put, List.setIfInBounds_toArray, List.set_cons_zero, List.set_cons_succ]
            refine wpAnyK_takeTo 1 (some 20) (.int .i64 (j : Int)) [2, 3, 8] rfl rfl (by kernel_rfl) (by kernel_rfl) (by kernel_rfl) (by kernel_rfl) (fun _ _ _ h => h) hS (Or.inl ⟨rfl, fun w1 hw1 => by have hw1 : w1 = U := hw1; subst hw1; go_simp⟩) ?_
            simp only [Act.put, List.setIfInBounds_toArray, List.set_cons_zero, List.set_cons_succ]
            refine wpAnyK_takeTo 2 (some 21) (.pointer (some ⟨ga, oa + j, none⟩)) [3, 8] rfl rfl (by kernel_rfl) (by kernel_rfl) (by kernel_rfl) (by kernel_rfl) (fun _ _ _ h => h) hS (Or.inl ⟨rfl, fun w1 hw1 => by have hw1 : w1 = U := hw1; subst hw1; go_simp⟩) ?_
            simp only [Act.put, List.setIfInBounds_toArray, List.set_cons_zero, List.set_cons_succ]
            refine wpAnyK_takeTo 3 (some 22) (.string x) [8] rfl rfl (by kernel_rfl) (by kernel_rfl) (by kernel_rfl) (by kernel_rfl) (fun _ _ _ h => h) hS (Or.inl ⟨rfl, fun w1 hw1 => by have hw1 : w1 = U := hw1; subst hw1; go_simp⟩) ?_
            simp only [Act.put, List.setIfInBounds_toArray, List.set_cons_zero, List.set_cons_succ]
            refine wpAnyK_takeTo 4 (some 23) (.slice (some ⟨gb, ob, none⟩) n2 c2) [6, 7, 8] rfl rfl (by kernel_rfl) (by kernel_rfl) (by kernel_rfl) (by kernel_rfl) (fun _ _ _ h => h) hS (Or.inl ⟨rfl, fun w1 hw1 => by have hw1 : w1 = U := hw1; subst hw1; go_simp⟩) ?_
            simp only [Act.put, List.setIfInBounds_toArray, List.set_cons_zero, List.set_cons_succ]
            refine wpAnyK_takeTo 5 (some 24) (.int .i64 (q : Int)) [6, 7, 8] rfl rfl (by kernel_rfl) (by kernel_rfl) (by kernel_rfl) (by kernel_rfl) (fun _ _ _ h => h) hS (Or.inl ⟨rfl, fun w1 hw1 => by have hw1 : w1 = U := hw1; subst hw1; go_simp⟩) ?_
            simp only [Act.put, List.setIfInBounds_toArray, List.set_cons_zero, List.set_cons_succ]
            refine wpAnyK_takeTo 6 (some 25) (.pointer (some ⟨gb, ob + q, none⟩)) [7, 8] rfl rfl (by kernel_rfl) (by kernel_rfl) (by kernel_rfl) (by kernel_rfl) (fun _ _ _ h => h) hS (Or.inl ⟨rfl, fun w1 hw1 => by have hw1 : w1 = U := hw1; subst hw1; go_simp⟩) ?_
            simp only [Act.put, List.setIfInBounds_toArray, List.set_cons_zero, List.set_cons_succ]
            refine wpAnyK_takeTo 7 (some 26) (.string y) [8] rfl rfl (by kernel_rfl) (by kernel_rfl) (by kernel_rfl) (by kernel_rfl) (fun _ _ _ h => h) hS (Or.inl ⟨rfl, fun w1 hw1 => by have hw1 : w1 = U := hw1; subst hw1; go_simp⟩) ?_
            simp only [Act.put, List.setIfInBounds_toArray, List.set_cons_zero, List.set_cons_succ]
            refine wpAnyK_takeTo 8 (some 27) (.bool false) [] rfl rfl (by kernel_rfl) (by kernel_rfl) (by kernel_rfl) (by kernel_rfl) (fun _ _ _ h => h) hS (Or.inl ⟨rfl, fun w1 hw1 => by have hw1 : w1 = U := hw1; subst hw1; go_simp⟩) ?_
            simp only [Act.put, List.setIfInBounds_toArray, List.set_cons_zero, List.set_cons_succ]
            refine wpAnyK_done (by kernel_rfl) ?_ _
            clear hS ca cb
            go_wp2
            go_roundw
            case rel => exact ⟨q + 1, by omega, by go_num, fun k z hk hz => by
              rcases Nat.lt_or_ge k q with h | h
              · exact HAL2.out k z h hz
              · have : k = q := by omega
                subst this
                rw [HY.out] at hz
                cases hz
                exact HE.out, HD.out⟩
            case measure => simp [intOf]; omega
        · have e2 : n2 = q := by omega
          subst e2
          go_wp2
          go_roundw
          case rel => exact ⟨j + 1, by omega, by go_num, fun k z hk hz => by
            rcases Nat.lt_or_ge k j with h | h
            · exact HAL.out k z h hz
            · have : k = j := by omega
              subst this
              rw [HX.out] at hz
              cases hz
              intro hm
              obtain ⟨p, hp⟩ := List.getElem?_of_mem hm
              exact HAL2.out p x (by have := (List.getElem?_eq_some_iff.1 hp).1; rw [HN2.out] at this; exact this) hp rfl, HW2.out⟩
          case measure => simp [intOf]; omega
    · have e1 : n1 = j := by omega
      subst e1
      have HNO : Hid (¬ Meet A B) := hide (fun ⟨x, hx, hb⟩ => by
        obtain ⟨p, hp⟩ := List.getElem?_of_mem hx
        exact HAL.out p x (by have := (List.getElem?_eq_some_iff.1 hp).1; rw [HN1.out] at this; exact this) hp hb)
      go_wp2
      go_ret
      exact ⟨.inr ⟨HNO.out, rfl⟩, HW.out⟩
end Go.Proofs.Ytiooacaplajidaa
