/- The document's order of rows; like rows. -/
import Derived.Test.YtlapifncplbcnaaGreatMp
import Derived.Laws.StructEq
namespace Go.Proofs.YtlapifncplbcnaaGreat
open Go.RowKit
set_option maxRecDepth 100000
set_option linter.unusedVariables false
set_option linter.unusedSimpArgs false

set_option maxHeartbeats 2000000 in
theorem one_any (a b : Val) (w : World) : Calls Tryz.prog 92 #[.agg #[.int .i64 a.kind, .int .i64 a.num, .string (strOf a.text)], .agg #[.int .i64 b.kind, .int .i64 b.num, .string (strOf b.text)]] w fun e w' => e = .returned (.int .i64 (cmpV a b)) ∧ Fr w w' (fun _ => False) := by
  obtain ⟨k, n, s⟩ := a
  obtain ⟨k', n', s'⟩ := b
  simp only [cmpV]
  have hts := toList_strOf s
  have hts' := toList_strOf s'
  by_cases h1 : k < k'
  · rw [if_pos h1]
    go_enter Tryz.func92, Tryz.ntmps92
    go_wp2
    go_ret
    exact ⟨rfl, up_two⟩
  · rw [if_neg h1]
    by_cases h2 : k' < k
    · rw [if_pos h2]
      have h3 : ¬ k = k' := by omega
      go_enter Tryz.func92, Tryz.ntmps92
      go_wp2
      go_ret
      exact ⟨rfl, up_two⟩
    · rw [if_neg h2]
      obtain rfl : k = k' := by omega
      clear h1 h2
      by_cases h3 : n < n'
      · rw [if_pos h3]
        go_enter Tryz.func92, Tryz.ntmps92
        go_wp2
        go_ret
        exact ⟨rfl, up_two⟩
      · rw [if_neg h3]
        by_cases h4 : n' < n
        · rw [if_pos h4]
          have h5 : ¬ n = n' := by omega
          go_enter Tryz.func92, Tryz.ntmps92
          go_wp2
          go_ret
          exact ⟨rfl, up_two⟩
        · rw [if_neg h4]
          obtain rfl : n = n' := by omega
          clear h3 h4
          by_cases h5 : Op.bytesLess s s' = true
          · rw [if_pos h5]
            go_enter Tryz.func92, Tryz.ntmps92
            go_wp2
            go_ret
            exact ⟨rfl, up_two⟩
          · rw [if_neg h5]
            have h6 : Op.bytesLess s s' = false := by simpa using h5
            clear h5
            by_cases h7 : s = s'
            · rw [if_pos h7]
              subst h7
              go_enter Tryz.func92, Tryz.ntmps92
              go_wp2
              go_ret
              exact ⟨rfl, up_two⟩
            · rw [if_neg h7]
              have h8 : (s == s') = false := by simpa using h7
              go_enter Tryz.func92, Tryz.ntmps92
              go_wp2
              go_ret
              exact ⟨rfl, up_two⟩

set_option maxHeartbeats 2000000 in
theorem rcompare_any (a b : Option Addr) (ca cb : Nat) (A B : List Val) (w : World) (ha : Vals w a A) (hb : Vals w b B) (hA : A.length ≤ 140737488355328) (hB : B.length ≤ 140737488355328) :
    Calls Tryz.prog 65 #[.slice a A.length ca, .slice b B.length cb] w fun e w' => e = .returned (.int .i64 (cmpL A B)) ∧ Fr w w' (fun _ => False) := by
  have HA := hide ha
  have HB := hide hb
  clear ha hb
  go_enter Tryz.func65, Tryz.ntmps65
  go_wp2
  go_loopw [5] (fun i wr => ∃ k : Nat, k ≤ A.length ∧ k ≤ B.length ∧ i = .int .i64 k ∧ Fr w wr (fun _ => False) ∧ cmpL (A.drop k) (B.drop k) = cmpL A B) (fun i _ => A.length - (intOf i).toNat)
  case atStart => exact ⟨0, by omega, by omega, rfl, Fr.refl _ _, rfl⟩
  case round =>
    rename World => w7
    obtain ⟨k, hkA, hkB, rfl, hf, he⟩ := hrel
    have HF := hide hf
    have HE := hide he
    clear hf he
    by_cases hltA : k < A.length
    · by_cases hltB : k < B.length
      · obtain ⟨x, hx⟩ : ∃ v, A[k]? = some v := ⟨_, List.getElem?_eq_getElem hltA⟩
        obtain ⟨y, hy⟩ : ∃ v, B[k]? = some v := ⟨_, List.getElem?_eq_getElem hltB⟩
        have HD := hide (cmpL_drop A B k x y hx hy)
        obtain ⟨ga, oa, rfl, c0, c1, c2⟩ := HA.out.get (HF.out.mono (by simp)) k x hx
        obtain ⟨gb, ob, rfl, d0, d1, d2⟩ := HB.out.get (HF.out.mono (by simp)) k y hy
        clear hx hy
        go_wp2_with fail
        have S0 : (fun V : World => V.cell? ⟨ga, oa + k * 3, none⟩ = some (.int .i64 x.kind) ∧ V.cell? ⟨ga, oa + k * 3 + 1, none⟩ = some (.int .i64 x.num) ∧ V.cell? ⟨ga, oa + k * 3 + 2, none⟩ = some (.string (strOf x.text)) ∧ V.cell? ⟨gb, ob + k * 3, none⟩ = some (.int .i64 y.kind) ∧ V.cell? ⟨gb, ob + k * 3 + 1, none⟩ = some (.int .i64 y.num) ∧ V.cell? ⟨gb, ob + k * 3 + 2, none⟩ = some (.string (strOf y.text))) w7.drew := ⟨by simpa using c0, by simpa using c1, by simpa using c2, by simpa using d0, by simpa using d1, by simpa using d2⟩
        clear c0 c1 c2 d0 d1 d2
        refine wp_region_K (fun _ => true) (fun V => V.cell? ⟨ga, oa + k * 3, none⟩ = some (.int .i64 x.kind) ∧ V.cell? ⟨ga, oa + k * 3 + 1, none⟩ = some (.int .i64 x.num) ∧ V.cell? ⟨ga, oa + k * 3 + 2, none⟩ = some (.string (strOf x.text)) ∧ V.cell? ⟨gb, ob + k * 3, none⟩ = some (.int .i64 y.kind) ∧ V.cell? ⟨gb, ob + k * 3 + 1, none⟩ = some (.int .i64 y.num) ∧ V.cell? ⟨gb, ob + k * 3 + 2, none⟩ = some (.string (strOf y.text))) (by kernel_rfl) ?_
        refine wpAnyK_takeTo 0 (some 19) (.slice (some ⟨ga, oa, none⟩) A.length ca) [] rfl rfl (by kernel_rfl) (by kernel_rfl) (by kernel_rfl) (by kernel_rfl) (fun _ _ _ h => h) S0 (Or.inl ⟨rfl, fun w1 hw1 => by go_simp⟩) ?_
        simp only [Act.put, List.setIfInBounds_toArray, List.set_cons_zero, List.set_cons_succ]
        refine wpAnyK_takeTo 1 (some 20) (.int .i64 (k : Int)) [] rfl rfl (by kernel_rfl) (by kernel_rfl) (by kernel_rfl) (by kernel_rfl) (fun _ _ _ h => h) S0 (Or.inl ⟨rfl, fun w1 hw1 => by go_simp⟩) ?_
        simp only [Act.put, List.setIfInBounds_toArray, List.set_cons_zero, List.set_cons_succ]
        refine wpAnyK_takeTo 2 (some 21) (.pointer (some ⟨ga, oa + k * 3, none⟩)) [] rfl rfl (by kernel_rfl) (by kernel_rfl) (by kernel_rfl) (by kernel_rfl) (fun _ _ _ h => h) S0 (Or.inl ⟨rfl, fun w1 hw1 => by go_simp⟩) ?_
        simp only [Act.put, List.setIfInBounds_toArray, List.set_cons_zero, List.set_cons_succ]
        refine wpAnyK_takeTo 3 (some 22) (.agg #[.int .i64 x.kind, .int .i64 x.num, .string (strOf x.text)]) [] rfl rfl (by kernel_rfl) (by kernel_rfl) (by kernel_rfl) (by kernel_rfl) (fun _ _ _ h => h) S0 (Or.inl ⟨rfl, fun w1 hw1 => by obtain ⟨q0, q1, q2, q3, q4, q5⟩ := hw1; go_simp⟩) ?_
        simp only [Act.put, List.setIfInBounds_toArray, List.set_cons_zero, List.set_cons_succ]
        refine wpAnyK_takeTo 4 (some 23) (.slice (some ⟨gb, ob, none⟩) B.length cb) [] rfl rfl (by kernel_rfl) (by kernel_rfl) (by kernel_rfl) (by kernel_rfl) (fun _ _ _ h => h) S0 (Or.inl ⟨rfl, fun w1 hw1 => by go_simp⟩) ?_
        simp only [Act.put, List.setIfInBounds_toArray, List.set_cons_zero, List.set_cons_succ]
        refine wpAnyK_takeTo 5 (some 24) (.int .i64 (k : Int)) [] rfl rfl (by kernel_rfl) (by kernel_rfl) (by kernel_rfl) (by kernel_rfl) (fun _ _ _ h => h) S0 (Or.inl ⟨rfl, fun w1 hw1 => by go_simp⟩) ?_
        simp only [Act.put, List.setIfInBounds_toArray, List.set_cons_zero, List.set_cons_succ]
        refine wpAnyK_takeTo 6 (some 25) (.pointer (some ⟨gb, ob + k * 3, none⟩)) [] rfl rfl (by kernel_rfl) (by kernel_rfl) (by kernel_rfl) (by kernel_rfl) (fun _ _ _ h => h) S0 (Or.inl ⟨rfl, fun w1 hw1 => by go_simp⟩) ?_
        simp only [Act.put, List.setIfInBounds_toArray, List.set_cons_zero, List.set_cons_succ]
        refine wpAnyK_takeTo 7 (some 26) (.agg #[.int .i64 y.kind, .int .i64 y.num, .string (strOf y.text)]) [] rfl rfl (by kernel_rfl) (by kernel_rfl) (by kernel_rfl) (by kernel_rfl) (fun _ _ _ h => h) S0 (Or.inl ⟨rfl, fun w1 hw1 => by obtain ⟨q0, q1, q2, q3, q4, q5⟩ := hw1; go_simp⟩) ?_
        simp only [Act.put, List.setIfInBounds_toArray, List.set_cons_zero, List.set_cons_succ]
        refine wpAnyK_one (i := 8) (by kernel_rfl) rfl rfl ?_
        refine wp_call_to (some 27) rfl 92 #[.agg #[.int .i64 x.kind, .int .i64 x.num, .string (strOf x.text)], .agg #[.int .i64 y.kind, .int .i64 y.num, .string (strOf y.text)]] (by go_simp) (one_any x y _) ?_
        rintro e w8 ⟨rfl, F8⟩
        have F78 := ((Fr.drew w7 (fun _ => False)).trans F8).mono (Y := fun _ => False) (by simp)
        have S1 : (fun V : World => V.cell? ⟨ga, oa + k * 3, none⟩ = some (.int .i64 x.kind) ∧ V.cell? ⟨ga, oa + k * 3 + 1, none⟩ = some (.int .i64 x.num) ∧ V.cell? ⟨ga, oa + k * 3 + 2, none⟩ = some (.string (strOf x.text)) ∧ V.cell? ⟨gb, ob + k * 3, none⟩ = some (.int .i64 y.kind) ∧ V.cell? ⟨gb, ob + k * 3 + 1, none⟩ = some (.int .i64 y.num) ∧ V.cell? ⟨gb, ob + k * 3 + 2, none⟩ = some (.string (strOf y.text))) w8 := by
          obtain ⟨q0, q1, q2, q3, q4, q5⟩ := S0
          have e : ∀ (g o : Nat) (v : Value), w7.drew.cell? ⟨g, o, none⟩ = some v → w8.cell? ⟨g, o, none⟩ = some v := fun g o v h => by rw [World.cell?_of_block (w := w7.drew) (F8.block g (World.block_lt_of_cell? _ _ h) id)]; exact h
          exact ⟨e _ _ _ q0, e _ _ _ q1, e _ _ _ q2, e _ _ _ q3, e _ _ _ q4, e _ _ _ q5⟩
        refine ⟨_, rfl, fun _ => S1, ?_⟩
        simp only [Act.put, List.setIfInBounds_toArray, List.set_cons_zero, List.set_cons_succ]
        refine wpAnyK_takeTo 9 (some 6) (.int .i64 (cmpV x y)) [] rfl rfl (by kernel_rfl) (by kernel_rfl) (by kernel_rfl) (by kernel_rfl) (fun _ _ _ h => h) S1 (Or.inl ⟨rfl, fun w1 hw1 => by go_simp⟩) ?_
        simp only [Act.put, List.setIfInBounds_toArray, List.set_cons_zero, List.set_cons_succ]
        refine wpAnyK_done (by kernel_rfl) ?_ _
        have HF8 := hide ((HF.out.trans F78).mono (Y := fun _ => False) (by simp))
        clear S0 S1 F8 F78
        by_cases hc : cmpV x y = 0
        · have hd := HD.out
          rw [if_pos hc] at hd
          have HD2 := hide hd
          clear hd
          go_wp2
          go_roundw
          case rel => exact ⟨k + 1, by omega, by omega, by go_num, HF8.out, by rw [← HD2.out, HE.out]⟩
          case measure => simp [intOf]; omega
        · have hd := HD.out
          rw [if_neg hc, HE.out] at hd
          have hc2 : ¬ (cmpV x y) = 0 := hc
          go_wp2
          go_ret
          exact ⟨by rw [hd]; rfl, HF8.out⟩
      · obtain rfl : k = B.length := by omega
        have hd : cmpL A B = 1 := by
          rw [← HE.out, List.drop_length, List.drop_eq_getElem_cons hltA]
          rfl
        have h1 : ¬ A.length < B.length := by omega
        go_wp2
        go_ret
        exact ⟨by rw [hd]; rfl, HF.out⟩
    · obtain rfl : k = A.length := by omega
      by_cases hlt : A.length < B.length
      · have hd : cmpL A B = -1 := by
          rw [← HE.out, List.drop_length, List.drop_eq_getElem_cons hlt]
          rfl
        go_wp2
        go_ret
        exact ⟨by rw [hd]; rfl, HF.out⟩
      · have hl : A.length = B.length := by omega
        have hd : cmpL A B = 0 := by
          rw [← HE.out, List.drop_length, hl, List.drop_length]
          rfl
        go_wp2
        go_ret
        exact ⟨by rw [hd]; rfl, HF.out⟩

set_option maxHeartbeats 2000000 in
/-- Like rows. -/
theorem rsame_any {w : World} {P Q : Nat → Prop} {p q : Option Addr} {c d : Nat} {a b : List Val} (h : Rok w P p c a) (k : Rok w Q q d b) :
    Calls Tryz.prog 36 #[.slice p a.length c, .slice q b.length d] w fun e w' => e = .returned (.bool (decide (a = b))) ∧ Fr w w' (fun _ => False) := by
  have HC := hide (fun W (hf : Fr w W (fun _ => False)) => rcompare_any p q c d a b W (h.fr hf (fun _ _ _ h => h)).vals (k.fr hf (fun _ _ _ h => h)).vals (by have := h.len; omega) (by have := k.len; omega))
  obtain ⟨n, hn⟩ : ∃ n, n = a.length := ⟨_, rfl⟩
  obtain ⟨m, hm⟩ : ∃ m, m = b.length := ⟨_, rfl⟩
  rw [← hn, ← hm] at HC ⊢
  have HN := hide hn
  have HM := hide hm
  clear h k hn hm
  by_cases hl : n = m
  · subst hl
    by_cases he : cmpL a b = 0
    · have e1 : decide (a = b) = true := by simpa using cmpL_zero.1 he
      rw [e1]
      go_enter Tryz.func36, Tryz.ntmps36
      go_wp2_with fail
      refine (HC.out w (Fr.refl _ _)).mono ?_
      rintro e w1 ⟨rfl, hf⟩
      have HF := hide hf
      rw [he]
      clear hf
      go_wp2
      go_ret
      exact ⟨rfl, HF.out⟩
    · have e1 : decide (a = b) = false := by simpa using fun e => he (cmpL_zero.2 e)
      have e9 : Hid ((cmpL a b == 0) = false) := hide (by simpa using he)
      rw [e1]
      go_enter Tryz.func36, Tryz.ntmps36
      go_wp2_with fail
      refine (HC.out w (Fr.refl _ _)).mono ?_
      rintro e w1 ⟨rfl, hf⟩
      have HF := hide hf
      clear hf
      go_wp2
      go_ret
      exact ⟨by show Ending.returned (Value.bool (cmpL a b == 0)) = _; rw [e9.out], HF.out⟩
  · have e1 : decide (a = b) = false := by simpa using fun e => hl (by rw [HN.out, HM.out, e])
    rw [e1]
    have hl2 : ¬ (n : Int) = (m : Int) := by omega
    go_enter Tryz.func36, Tryz.ntmps36
    go_wp2
    go_ret
    exact ⟨rfl, Fr.refl _ _⟩
set_option maxHeartbeats 2000000 in
/-- The document's Right. -/
theorem rright_any (p : Per) (w : World) : Calls Tryz.prog 38 #[perV p] w fun e w' => e = .returned (.bool (rightB p)) ∧ Fr w w' (fun _ => False) := by
  unfold perV
  obtain ⟨lo, hi⟩ := p
  by_cases h1 : 0 ≤ lo
  · by_cases h2 : lo < hi
    · by_cases h3 : hi ≤ 1099511627776
      · rw [show rightB ⟨lo, hi⟩ = true by simp [rightB, h1, h2, h3]]
        go_enter Tryz.func38, Tryz.ntmps38
        go_wp2
        go_ret
        exact ⟨rfl, Fr.alloc _ _ _⟩
      · rw [show rightB ⟨lo, hi⟩ = false by simp [rightB, h3]]
        go_enter Tryz.func38, Tryz.ntmps38
        go_wp2
        go_ret
        exact ⟨rfl, Fr.alloc _ _ _⟩
    · rw [show rightB ⟨lo, hi⟩ = false by simp [rightB, h2]]
      go_enter Tryz.func38, Tryz.ntmps38
      go_wp2
      go_ret
      exact ⟨rfl, Fr.alloc _ _ _⟩
  · rw [show rightB ⟨lo, hi⟩ = false by simp [rightB, h1]]
    go_enter Tryz.func38, Tryz.ntmps38
    go_wp2
    go_ret
    exact ⟨rfl, Fr.alloc _ _ _⟩
end Go.Proofs.YtlapifncplbcnaaGreat
