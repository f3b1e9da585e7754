/- The document's order of values. -/
import Derived.Test.YtiicgfipmdgnhaaQP
import Derived.Test.YtiicgfipmdgnhaaA
import Derived.Laws.StructEq
namespace Go.Proofs.Ytiicgfipmdgnhaa
open Go.RowKit
set_option maxRecDepth 100000

/-- Two values: -1, 0 or 1. -/
def cmpV (a b : Val) : Int :=
  if a.kind < b.kind then -1 else if b.kind < a.kind then 1
  else if a.num < b.num then -1 else if b.num < a.num then 1
  else if Op.bytesLess a.text b.text = true then -1 else if a.text = b.text then 0 else 1

set_option maxHeartbeats 2000000 in
theorem one_any (a b : Val) (w : World) : Calls Try.prog 39 #[.agg #[.int .i64 a.kind, .int .i64 a.num, .string (strOf a.text)], .agg #[.int .i64 b.kind, .int .i64 b.num, .string (strOf b.text)]] w fun e w' => e = .returned (.int .i64 (cmpV a b)) ∧ Fr w w' (fun _ => False) := by
  obtain ⟨k, n, s⟩ := a
  obtain ⟨k', n', s'⟩ := b
  simp only [cmpV]
  have hts := toList_strOf s
  have hts' := toList_strOf s'
  by_cases h1 : k < k'
  · rw [if_pos h1]
    go_enter Try.func39, Try.ntmps39
    go_wp2
    go_ret
    exact ⟨rfl, up_two⟩
  · rw [if_neg h1]
    by_cases h2 : k' < k
    · rw [if_pos h2]
      have h3 : ¬ k = k' := by omega
      go_enter Try.func39, Try.ntmps39
      go_wp2
      go_ret
      exact ⟨rfl, up_two⟩
    · rw [if_neg h2]
      obtain rfl : k = k' := by omega
      clear h1 h2
      by_cases h3 : n < n'
      · rw [if_pos h3]
        go_enter Try.func39, Try.ntmps39
        go_wp2
        go_ret
        exact ⟨rfl, up_two⟩
      · rw [if_neg h3]
        by_cases h4 : n' < n
        · rw [if_pos h4]
          have h5 : ¬ n = n' := by omega
          go_enter Try.func39, Try.ntmps39
          go_wp2
          go_ret
          exact ⟨rfl, up_two⟩
        · rw [if_neg h4]
          obtain rfl : n = n' := by omega
          clear h3 h4
          by_cases h5 : Op.bytesLess s s' = true
          · rw [if_pos h5]
            go_enter Try.func39, Try.ntmps39
            go_wp2
            go_ret
            exact ⟨rfl, up_two⟩
          · rw [if_neg h5]
            have h6 : Op.bytesLess s s' = false := by simpa using h5
            clear h5
            by_cases h7 : s = s'
            · rw [if_pos h7]
              subst h7
              go_enter Try.func39, Try.ntmps39
              go_wp2
              go_ret
              exact ⟨rfl, up_two⟩
            · rw [if_neg h7]
              have h8 : (s == s') = false := by simpa using h7
              go_enter Try.func39, Try.ntmps39
              go_wp2
              go_ret
              exact ⟨rfl, up_two⟩

/-- Two lists: -1, 0 or 1. -/
def cmpL : List Val → List Val → Int
  | [], [] => 0
  | [], _ :: _ => -1
  | _ :: _, [] => 1
  | a :: x, b :: y => if cmpV a b = 0 then cmpL x y else cmpV a b
theorem less_irr (l : List UInt8) : Op.bytesLess l l = false := by
  induction l with
  | nil => rfl
  | cons b r ih => simp [Op.bytesLess, ih, UInt8.lt_irrefl]
theorem cmpV_self (a : Val) : cmpV a a = 0 := by simp [cmpV, less_irr]
theorem cmpV_range (a b : Val) : cmpV a b = -1 ∨ cmpV a b = 0 ∨ cmpV a b = 1 := by
  unfold cmpV
  repeat' split
  all_goals simp
theorem cmpL_self (a : List Val) : cmpL a a = 0 := by
  induction a with
  | nil => rfl
  | cons v r ih => simp [cmpL, cmpV_self, ih]
theorem cmpL_drop (a b : List Val) (k : Nat) (x y : Val) (hx : a[k]? = some x) (hy : b[k]? = some y) : cmpL (a.drop k) (b.drop k) = if cmpV x y = 0 then cmpL (a.drop (k + 1)) (b.drop (k + 1)) else cmpV x y := by
  obtain ⟨h1, h2⟩ := List.getElem?_eq_some_iff.1 hx
  obtain ⟨h3, h4⟩ := List.getElem?_eq_some_iff.1 hy
  rw [List.drop_eq_getElem_cons h1, List.drop_eq_getElem_cons h3, h2, h4, cmpL]

set_option maxHeartbeats 2000000 in
theorem compare_any (a b : Option Addr) (ca cb : Nat) (A B : List Val) (w : World) (ha : Vals w a A) (hb : Vals w b B) (hA : A.length ≤ 140737488355328) (hB : B.length ≤ 140737488355328) :
    Calls Try.prog 23 #[.slice a A.length ca, .slice b B.length cb] w fun e w' => e = .returned (.int .i64 (cmpL A B)) ∧ Fr w w' (fun _ => False) := by
  have HA := hide ha
  have HB := hide hb
  clear ha hb
  go_enter Try.func23, Try.ntmps23
  go_wp2
  go_loopw [5] (fun i wr => ∃ k : Nat, k ≤ A.length ∧ k ≤ B.length ∧ i = .int .i64 k ∧ Fr w wr (fun _ => False) ∧ cmpL (A.drop k) (B.drop k) = cmpL A B) (fun i _ => A.length - (intOf i).toNat)
  case atStart => exact ⟨0, by omega, by omega, rfl, Fr.refl _ _, rfl⟩
  case round =>
    rename World => w7
    obtain ⟨k, hkA, hkB, rfl, hf, he⟩ := hrel
    have HF := hide hf
    have HE := hide he
    clear hf he
    by_cases hltA : k < A.length
    · by_cases hltB : k < B.length
      · obtain ⟨x, hx⟩ : ∃ v, A[k]? = some v := ⟨_, List.getElem?_eq_getElem hltA⟩
        obtain ⟨y, hy⟩ : ∃ v, B[k]? = some v := ⟨_, List.getElem?_eq_getElem hltB⟩
        have HD := hide (cmpL_drop A B k x y hx hy)
        obtain ⟨ga, oa, rfl, c0, c1, c2⟩ := HA.out.get (HF.out.mono (by simp)) k x hx
        obtain ⟨gb, ob, rfl, d0, d1, d2⟩ := HB.out.get (HF.out.mono (by simp)) k y hy
        clear hx hy
        go_wp2_with fail
        have S0 : (fun V : World => V.cell? ⟨ga, oa + k * 3, none⟩ = some (.int .i64 x.kind) ∧ V.cell? ⟨ga, oa + k * 3 + 1, none⟩ = some (.int .i64 x.num) ∧ V.cell? ⟨ga, oa + k * 3 + 2, none⟩ = some (.string (strOf x.text)) ∧ V.cell? ⟨gb, ob + k * 3, none⟩ = some (.int .i64 y.kind) ∧ V.cell? ⟨gb, ob + k * 3 + 1, none⟩ = some (.int .i64 y.num) ∧ V.cell? ⟨gb, ob + k * 3 + 2, none⟩ = some (.string (strOf y.text))) w7.drew := ⟨by simpa using c0, by simpa using c1, by simpa using c2, by simpa using d0, by simpa using d1, by simpa using d2⟩
        clear c0 c1 c2 d0 d1 d2
        refine wp_region_K (fun _ => true) (fun V => V.cell? ⟨ga, oa + k * 3, none⟩ = some (.int .i64 x.kind) ∧ V.cell? ⟨ga, oa + k * 3 + 1, none⟩ = some (.int .i64 x.num) ∧ V.cell? ⟨ga, oa + k * 3 + 2, none⟩ = some (.string (strOf x.text)) ∧ V.cell? ⟨gb, ob + k * 3, none⟩ = some (.int .i64 y.kind) ∧ V.cell? ⟨gb, ob + k * 3 + 1, none⟩ = some (.int .i64 y.num) ∧ V.cell? ⟨gb, ob + k * 3 + 2, none⟩ = some (.string (strOf y.text))) (by kernel_rfl) ?_
        refine wpAnyK_takeTo 0 (some 19) (.slice (some ⟨ga, oa, none⟩) A.length ca) [] rfl rfl (by kernel_rfl) (by kernel_rfl) (by kernel_rfl) (by kernel_rfl) (fun _ _ _ h => h) S0 (Or.inl ⟨rfl, fun w1 hw1 => by go_simp⟩) ?_
        simp only [Act.put, List.setIfInBounds_toArray, List.set_cons_zero, List.set_cons_succ]
        refine wpAnyK_takeTo 1 (some 20) (.int .i64 (k : Int)) [] rfl rfl (by kernel_rfl) (by kernel_rfl) (by kernel_rfl) (by kernel_rfl) (fun _ _ _ h => h) S0 (Or.inl ⟨rfl, fun w1 hw1 => by go_simp⟩) ?_
        simp only [Act.put, List.setIfInBounds_toArray, List.set_cons_zero, List.set_cons_succ]
        refine wpAnyK_takeTo 2 (some 21) (.pointer (some ⟨ga, oa + k * 3, none⟩)) [] rfl rfl (by kernel_rfl) (by kernel_rfl) (by kernel_rfl) (by kernel_rfl) (fun _ _ _ h => h) S0 (Or.inl ⟨rfl, fun w1 hw1 => by go_simp⟩) ?_
        simp only [Act.put, List.setIfInBounds_toArray, List.set_cons_zero, List.set_cons_succ]
        refine wpAnyK_takeTo 3 (some 22) (.agg #[.int .i64 x.kind, .int .i64 x.num, .string (strOf x.text)]) [] rfl rfl (by kernel_rfl) (by kernel_rfl) (by kernel_rfl) (by kernel_rfl) (fun _ _ _ h => h) S0 (Or.inl ⟨rfl, fun w1 hw1 => by obtain ⟨q0, q1, q2, q3, q4, q5⟩ := hw1; go_simp⟩) ?_
        simp only [Act.put, List.setIfInBounds_toArray, List.set_cons_zero, List.set_cons_succ]
        refine wpAnyK_takeTo 4 (some 23) (.slice (some ⟨gb, ob, none⟩) B.length cb) [] rfl rfl (by kernel_rfl) (by kernel_rfl) (by kernel_rfl) (by kernel_rfl) (fun _ _ _ h => h) S0 (Or.inl ⟨rfl, fun w1 hw1 => by go_simp⟩) ?_
        simp only [Act.put, List.setIfInBounds_toArray, List.set_cons_zero, List.set_cons_succ]
        refine wpAnyK_takeTo 5 (some 24) (.int .i64 (k : Int)) [] rfl rfl (by kernel_rfl) (by kernel_rfl) (by kernel_rfl) (by kernel_rfl) (fun _ _ _ h => h) S0 (Or.inl ⟨rfl, fun w1 hw1 => by go_simp⟩) ?_
        simp only [Act.put, List.setIfInBounds_toArray, List.set_cons_zero, List.set_cons_succ]
        refine wpAnyK_takeTo 6 (some 25) (.pointer (some ⟨gb, ob + k * 3, none⟩)) [] rfl rfl (by kernel_rfl) (by kernel_rfl) (by kernel_rfl) (by kernel_rfl) (fun _ _ _ h => h) S0 (Or.inl ⟨rfl, fun w1 hw1 => by go_simp⟩) ?_
        simp only [Act.put, List.setIfInBounds_toArray, List.set_cons_zero, List.set_cons_succ]
        refine wpAnyK_takeTo 7 (some 26) (.agg #[.int .i64 y.kind, .int .i64 y.num, .string (strOf y.text)]) [] rfl rfl (by kernel_rfl) (by kernel_rfl) (by kernel_rfl) (by kernel_rfl) (fun _ _ _ h => h) S0 (Or.inl ⟨rfl, fun w1 hw1 => by obtain ⟨q0, q1, q2, q3, q4, q5⟩ := hw1; go_simp⟩) ?_
        simp only [Act.put, List.setIfInBounds_toArray, List.set_cons_zero, List.set_cons_succ]
        refine wpAnyK_one (i := 8) (by kernel_rfl) rfl rfl ?_
        refine wp_call_to (some 27) rfl 39 #[.agg #[.int .i64 x.kind, .int .i64 x.num, .string (strOf x.text)], .agg #[.int .i64 y.kind, .int .i64 y.num, .string (strOf y.text)]] (by go_simp) (one_any x y _) ?_
        rintro e w8 ⟨rfl, F8⟩
        have F78 := ((Fr.drew w7 (fun _ => False)).trans F8).mono (Y := fun _ => False) (by simp)
        have S1 : (fun V : World => V.cell? ⟨ga, oa + k * 3, none⟩ = some (.int .i64 x.kind) ∧ V.cell? ⟨ga, oa + k * 3 + 1, none⟩ = some (.int .i64 x.num) ∧ V.cell? ⟨ga, oa + k * 3 + 2, none⟩ = some (.string (strOf x.text)) ∧ V.cell? ⟨gb, ob + k * 3, none⟩ = some (.int .i64 y.kind) ∧ V.cell? ⟨gb, ob + k * 3 + 1, none⟩ = some (.int .i64 y.num) ∧ V.cell? ⟨gb, ob + k * 3 + 2, none⟩ = some (.string (strOf y.text))) w8 := by
          obtain ⟨q0, q1, q2, q3, q4, q5⟩ := S0
          have e : ∀ (g o : Nat) (v : Value), w7.drew.cell? ⟨g, o, none⟩ = some v → w8.cell? ⟨g, o, none⟩ = some v := fun g o v h => by rw [World.cell?_of_block (w := w7.drew) (F8.block g (World.block_lt_of_cell? _ _ h) id)]; exact h
          exact ⟨e _ _ _ q0, e _ _ _ q1, e _ _ _ q2, e _ _ _ q3, e _ _ _ q4, e _ _ _ q5⟩
        refine ⟨_, rfl, fun _ => S1, ?_⟩
        simp only [Act.put, List.setIfInBounds_toArray, List.set_cons_zero, List.set_cons_succ]
        refine wpAnyK_takeTo 9 (some 6) (.int .i64 (cmpV x y)) [] rfl rfl (by kernel_rfl) (by kernel_rfl) (by kernel_rfl) (by kernel_rfl) (fun _ _ _ h => h) S1 (Or.inl ⟨rfl, fun w1 hw1 => by go_simp⟩) ?_
        simp only [Act.put, List.setIfInBounds_toArray, List.set_cons_zero, List.set_cons_succ]
        refine wpAnyK_done (by kernel_rfl) ?_ _
        have HF8 := hide ((HF.out.trans F78).mono (Y := fun _ => False) (by simp))
        clear S0 S1 F8 F78
        by_cases hc : cmpV x y = 0
        · have hd := HD.out
          rw [if_pos hc] at hd
          have HD2 := hide hd
          clear hd
          go_wp2
          go_roundw
          case rel => exact ⟨k + 1, by omega, by omega, by go_num, HF8.out, by rw [← HD2.out, HE.out]⟩
          case measure => simp [intOf]; omega
        · have hd := HD.out
          rw [if_neg hc, HE.out] at hd
          have hc2 : ¬ (cmpV x y) = 0 := hc
          go_wp2
          go_ret
          exact ⟨by rw [hd]; rfl, HF8.out⟩
      · obtain rfl : k = B.length := by omega
        have hd : cmpL A B = 1 := by
          rw [← HE.out, List.drop_length, List.drop_eq_getElem_cons hltA]
          rfl
        have h1 : ¬ A.length < B.length := by omega
        go_wp2
        go_ret
        exact ⟨by rw [hd]; rfl, HF.out⟩
    · obtain rfl : k = A.length := by omega
      by_cases hlt : A.length < B.length
      · have hd : cmpL A B = -1 := by
          rw [← HE.out, List.drop_length, List.drop_eq_getElem_cons hlt]
          rfl
        go_wp2
        go_ret
        exact ⟨by rw [hd]; rfl, HF.out⟩
      · have hl : A.length = B.length := by omega
        have hd : cmpL A B = 0 := by
          rw [← HE.out, List.drop_length, hl, List.drop_length]
          rfl
        go_wp2
        go_ret
        exact ⟨by rw [hd]; rfl, HF.out⟩

end Go.Proofs.Ytiicgfipmdgnhaa
