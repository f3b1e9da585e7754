/- Quote, and the law on quoted texts: their walks. -/
import Derived.Test.YtackfnojafinpaaDoorN
import Derived.Test.YtackfnojafinpaaDoorLr
namespace Go.Proofs.YtackfnojafinpaaDoor
open Go.RowKit
set_option linter.unusedVariables false

/-- Two quotes for each one. -/
def dbl : List UInt8 → List UInt8
  | [] => []
  | b :: l => if b = 39 then 39 :: 39 :: dbl l else b :: dbl l
theorem dbl_len : ∀ l : List UInt8, (dbl l).length ≤ 2 * l.length
  | [] => by simp [dbl]
  | b :: l => by have := dbl_len l; simp only [dbl]; split <;> simp <;> omega
theorem index_quote (b : UInt8) (l : List UInt8) : Lib.index (b :: l) [39] = if b = 39 then 0 else if Lib.index l [39] = -1 then -1 else Lib.index l [39] + 1 := by
  simp only [Lib.index]
  by_cases h : b = 39
  · subst h; simp [List.isPrefixOf]
  · have h2 : (39 : UInt8) ≠ b := fun e => h e.symm
    simp [List.isPrefixOf, h, h2]
theorem replace_dbl : ∀ l : List UInt8, Lib.replaceK [39] [39, 39] (Lib.count l [39]) l = dbl l
  | [] => by
    have : Lib.count [] [39] = 0 := Lib.count_miss (by simp [Lib.index])
    rw [this]; rfl
  | b :: l => by
    have ih := replace_dbl l
    have hi := index_quote b l
    by_cases h : b = 39
    · rw [if_pos h] at hi
      have hi2 : Lib.index (b :: l) [39] = ((0 : Nat) : Int) := hi
      have hc := Lib.count_hit (sub := [39]) (by simp) hi2
      simp only [List.length_cons, List.length_nil, Nat.zero_add, List.drop_succ_cons, List.drop_zero] at hc
      rw [hc, Nat.add_comm 1, Lib.replaceK_hit _ _ _ _ 0 hi2]
      simp only [List.take_zero, List.nil_append, List.length_cons, List.length_nil, Nat.zero_add, List.drop_succ_cons, List.drop_zero, ih]
      simp [dbl, h]
    · rw [if_neg h] at hi
      by_cases hm : Lib.index l [39] = -1
      · rw [if_pos hm] at hi
        rw [Lib.count_miss hm] at ih
        rw [Lib.count_miss hi]
        simp only [Lib.replaceK] at ih ⊢
        simp only [dbl, h, if_false, ← ih]
      · rw [if_neg hm] at hi
        have hge := Lib.index_ge l [39]
        obtain ⟨i, hi3⟩ : ∃ i : Nat, Lib.index l [39] = i := ⟨(Lib.index l [39]).toNat, by omega⟩
        rw [hi3] at hi
        have hi2 : Lib.index (b :: l) [39] = ((i + 1 : Nat) : Int) := by rw [hi]; rfl
        have hc := Lib.count_hit (sub := [39]) (by simp) hi2
        have hc2 := Lib.count_hit (sub := [39]) (by simp) hi3
        simp only [List.length_cons, List.length_nil, Nat.zero_add, List.drop_succ_cons] at hc hc2
        rw [hc, Nat.add_comm 1, Lib.replaceK_hit _ _ _ _ (i + 1) hi2]
        rw [hc2, Nat.add_comm 1, Lib.replaceK_hit _ _ _ _ i hi3] at ih
        simp only [List.length_cons, List.length_nil, Nat.zero_add, List.drop_succ_cons, List.take_succ_cons, List.cons_append] at ih ⊢
        rw [ih]
        simp [dbl, h]
theorem replaceAll_dbl (l : List UInt8) : Lib.replaceAll l [39] [39, 39] = dbl l := by
  unfold Lib.replaceAll Lib.replace Lib.replaceNum
  rw [if_neg (by decide), if_pos (.inl (by decide))]
  exact replace_dbl l
theorem quoteT_dbl : ∀ l : List UInt8, quoteT (dbl l ++ [39]) = some (l, (dbl l).length + 1)
  | [] => rfl
  | b :: l => by
    have ih := quoteT_dbl l
    by_cases h : b = 39
    · subst h
      simp only [dbl, if_true, List.cons_append]
      rw [quoteT_two, ih]
      simp
    · simp only [dbl, h, if_false, List.cons_append]
      rw [quoteT_free _ _ h, ih]
      simp
/-- A text in quotes. -/
def quoL (l : List UInt8) : List UInt8 := 39 :: (dbl l ++ [39])
theorem lex_quote (l : List UInt8) : Lex 0 (quoL l) (.ok [⟨3, l, 0, 0⟩]) := by
  have h1 : oneR (quoL l) = some ⟨3, l, 0, (dbl l).length + 2⟩ := by
    unfold quoL
    simp only [oneR, word_quote, num_quote, quoteR, if_true, quoteT_dbl]
    rfl
  refine Lex.take ⟨3, l, 0, (dbl l).length + 2⟩ (by decide) h1 ?_
  rw [List.drop_eq_nil_of_le (by simp)]
  exact .nil _
/-- The library's MaxLen is a number. -/
def MaxL (w : World) : Prop := ∃ m, w.cell? ⟨3, 0, none⟩ = some (.int .i64 m)
theorem MaxL.fr {w w' : World} {X : Nat → Prop} (h : MaxL w) (hf : Fr w w' X) (hx : ¬ X 3) : MaxL w' := by
  obtain ⟨m, h⟩ := h
  refine ⟨m, ?_⟩
  rw [World.cell?_of_block (w := w) (hf.block 3 (World.block_lt_of_cell? w _ h) hx)]
  exact h
theorem replace_any (s : ByteArray) (w : World) (hm : MaxL w) (hs : s.size ≤ 1048576) :
    Calls Tryd.prog 21 #[.string s, .string ⟨#[39]⟩, .string ⟨#[39, 39]⟩] w fun e w' => e = .returned (.string (strOf (dbl s.data.toList))) ∧ Fr w w' (fun _ => False) := by
  obtain ⟨m, hm⟩ := hm
  refine (Tryd.strings_ReplaceAll s ⟨#[39]⟩ ⟨#[39, 39]⟩ m w (by omega) hm (by decide) (by
    have h1 := Lib.count_le s.data.toList [39]
    have e : s.data.toList.length = s.size := rfl
    have h2 : Lib.countB s ⟨#[39]⟩ ≤ s.size + 1 := by rw [← e]; exact h1
    have h3 : (⟨#[39, 39]⟩ : ByteArray).size = 2 := rfl
    rw [h3]; omega)).mono ?_
  rintro e w' ⟨rfl, hb⟩
  refine ⟨?_, Fr.of_below hb⟩
  have h := replaceAll_dbl s.data.toList
  show Ending.returned (.string ⟨(Lib.replaceAll s.data.toList [39] [39, 39]).toArray⟩) = _
  rw [h]
  rfl
theorem quo_str (l : List UInt8) : (⟨#[39]⟩ : ByteArray) ++ strOf (dbl l) ++ ⟨#[39]⟩ = strOf (quoL l) := by
  apply ByteArray.ext
  simp [strOf, quoL]
set_option maxHeartbeats 1000000 in
theorem quote_any (s : ByteArray) (w : World) (hm : MaxL w) (hs : s.size ≤ 1048576) :
    Calls Tryd.prog 12 #[.string s] w fun e w' => e = .returned (.string (strOf (quoL s.data.toList))) ∧ Fr w w' (fun _ => False) := by
  have hr := replace_any s w hm hs
  have hl : (strOf (dbl s.data.toList)).size ≤ 2097152 := by
    rw [strOf_size]
    have := dbl_len s.data.toList
    have e : s.data.toList.length = s.size := rfl
    omega
  have HQ := hide (quo_str s.data.toList)
  clear hm
  go_enter Tryd.func12, Tryd.ntmps12
  generalize hu : strOf (dbl s.data.toList) = u at *
  clear hu
  go_wp2_with (go_at_call 21; refine hr.mono ?_; rintro e w' ⟨rfl, hf⟩; have HF := hide hf; clear hf hr)
  go_ret
  rw [← HQ.out]
  exact ⟨rfl, HF.out⟩
set_option maxRecDepth 100000 in
set_option maxHeartbeats 2000000 in
theorem quotes_walk (s : ByteArray) (w : World) (he : Errs w) (hm : MaxL w) (hs : s.size ≤ 1048576) :
    Calls Tryd.prog 4 #[.string s] w fun e w' => e = .returned (.bool true) ∧ Fr w w' (fun _ => False) := by
  have haw := awake_any w he
  have HE := hide he
  have HM := hide hm
  have hqs : (strOf (quoL s.data.toList)).size ≤ 2097154 := by
    rw [strOf_size]
    have := dbl_len s.data.toList
    have e : s.data.toList.length = s.size := rfl
    simp [quoL]; omega
  have HL := hide (lex_quote s.data.toList)
  have HSZ := hide (strOf_size (quoL s.data.toList))
  clear he hm
  go_enter Tryd.func4, Tryd.ntmps4
  go_wp2_with fail
  refine haw.mono ?_
  rintro e W0 ⟨rfl, hf⟩
  have HF0 := hide hf
  have HE0 := hide (HE.out.fr hf (fun h => h))
  have HM0 := hide (HM.out.fr hf (fun h => h))
  clear hf haw HE HM
  go_wp2_with fail
  refine (quote_any s W0 HM0.out hs).mono ?_
  rintro e W1 ⟨rfl, hf⟩
  have HF1 := hide ((HF0.out.trans hf).mono (Y := fun _ => False) (by simp))
  have HE1 := hide (HE0.out.fr hf (fun h => h))
  clear hf HE0 HF0 HM0
  have hLq : Lex 0 (strOf (quoL s.data.toList)).data.toList (.ok [⟨3, s.data.toList, 0, 0⟩]) := by rw [strOf_toList]; exact HL.out
  have HLQ := hide hLq
  clear hLq HL HSZ
  generalize strOf (quoL s.data.toList) = q at *
  by_cases hlong : 4096 < q.size
  · have ht := tokens_long q W1 hlong (by omega)
    go_wp2_with (go_at_call 9; refine ht.mono ?_; rintro e W2 ⟨rfl, hf⟩; have HF2 := hide hf; clear hf ht)
    go_ret
    exact ⟨rfl, ((HF1.out.trans HF2.out).trans (Fr.alloc _ _ (fun _ => False))).mono (by simp)⟩
  · have ht := tokens_okay q W1 (by omega) HE1.out _ HLQ.out
    have ht2 : Calls Tryd.prog 9 #[.string q] W1 fun e w' => ∃ g c, e = .returned (.tuple #[.slice (some ⟨g, 0, none⟩) 1 c, .agg #[.int .i64 0, .int .i64 0]]) ∧ g < w'.heap.size ∧ w'.cell? ⟨g, 0, none⟩ = some (.int .i64 3) ∧ w'.cell? ⟨g, 1, none⟩ = some (.string s) ∧ w'.cell? ⟨g, 3, none⟩ = some (.int .i64 0) ∧ 1 ≤ c ∧ Fr W1 w' (fun _ => False) := by
      refine ht.mono ?_
      rintro e w' ⟨⟨v, rfl, ho⟩, hf⟩
      obtain ⟨a, c, rfl, hc, _⟩ := ho.shape
      obtain ⟨g, rfl, k0, k1, _, k3⟩ := ho.toks.get (Fr.refl _ _) 0 _ rfl
      exact ⟨g, c, rfl, World.block_lt_of_cell? _ _ k0, k0, k1, k3, hc, hf⟩
    clear ht
    go_wp2_with (go_at_call 9; refine ht2.mono ?_; rintro e W2 ⟨g, c, rfl, hg, k0, k1, k3, hc, hf⟩; have HF2 := hide hf; clear hf ht2)
    go_ret
    exact ⟨rfl, ((HF1.out.trans HF2.out).trans (Fr.alloc _ _ (fun _ => False))).mono (by simp)⟩
end Go.Proofs.YtackfnojafinpaaDoor
