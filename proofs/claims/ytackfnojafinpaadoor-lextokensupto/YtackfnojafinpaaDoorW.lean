/- The same tokens; the document's Quote; the law on tokens. -/
import Derived.Test.YtackfnojafinpaaDoorV
import Derived.Test.YtackfnojafinpaaDoorP
namespace Go.Proofs.YtackfnojafinpaaDoor
open Go.RowKit
set_option linter.unusedVariables false

set_option maxRecDepth 100000 in
set_option maxHeartbeats 3000000 in
theorem same_any (T : List Tok) (a1 a2 : Option Addr) (c1 c2 : Nat) (w : World) (h1 : Toks w a1 T) (h2 : Toks w a2 T) (hl : T.length ≤ 4096) :
    Calls Tryd.prog 11 #[.slice a1 T.length c1, .slice a2 T.length c2] w fun e w' => e = .returned (.bool true) ∧ Fr w w' (fun _ => False) := by
  have H1 := hide h1
  have H2 := hide h2
  clear h1 h2
  go_enter Tryd.func11, Tryd.ntmps11
  go_wp2
  go_loopw [13] (fun i wr => ∃ k : Nat, i = .int .i64 k ∧ k ≤ T.length ∧ Fr w wr (fun _ => False)) (fun i _ => T.length - (intOf i).toNat)
  case atStart => exact ⟨0, rfl, by omega, Fr.refl _ _⟩
  case round =>
    rename World => W
    obtain ⟨k, rfl, hk, hf⟩ := hrel
    have HF := hide hf
    by_cases hlt : k < T.length
    · obtain ⟨t, ht⟩ : ∃ t, T[k]? = some t := ⟨_, List.getElem?_eq_getElem hlt⟩
      obtain ⟨g1, rfl, x0, x1, x2, x3⟩ := H1.out.get hf k t ht
      obtain ⟨g2, rfl, y0, y1, y2, y3⟩ := H2.out.get hf k t ht
      obtain ⟨kd, tx, nm, ps⟩ := t
      simp only at x0 x1 x2 x3 y0 y1 y2 y3
      clear hf ht
      generalize strOf tx = u at *
      go_wp2
      go_region
      go_wp2
      exact ⟨⟨k + 1, by go_num, by omega, (HF.out.trans (Fr.drew _ (fun _ => False))).mono (by simp)⟩, by simp [intOf]; omega⟩
    · clear hf
      go_wp2
      go_ret
      exact ⟨rfl, HF.out⟩
/-- The document's text in quotes, as far as it is written. -/
theorem dbl_snoc (l : List UInt8) (b : UInt8) : dbl (l ++ [b]) = dbl l ++ (if b = 39 then [39, 39] else [b]) := by
  induction l with
  | nil => simp only [List.nil_append, dbl]
  | cons a l ih =>
    simp only [List.cons_append, dbl, ih]
    by_cases h : a = 39 <;> simp [h]
theorem take_snoc (s : ByteArray) (k : Nat) (h : k < s.size) : s.data.toList.take (k + 1) = s.data.toList.take k ++ [s[k]] := by
  rw [List.take_add_one]
  have : s.data.toList[k]? = some s[k] := by rw [List.getElem?_eq_getElem (by simpa using h)]; rfl
  rw [this]; rfl
set_option maxRecDepth 100000 in
set_option maxHeartbeats 2000000 in
theorem rquote_any (s : ByteArray) (w : World) (hs : s.size ≤ 1048576) :
    Calls Tryd.prog 13 #[.string s] w fun e w' => e = .returned (.string (strOf (quoL s.data.toList))) ∧ w' = w := by
  go_enter Tryd.func13, Tryd.ntmps13
  go_wp2
  go_loop [3, 4] (fun x i => ∃ k : Nat, k ≤ s.size ∧ i = .int .i64 k ∧ x = .string (strOf (39 :: dbl (s.data.toList.take k)))) (fun _ i => s.size - (intOf i).toNat)
  case atStart => exact ⟨0, by omega, rfl, rfl⟩
  case round =>
    obtain ⟨k, hk, rfl, rfl⟩ := hrel
    have hsz : (strOf (39 :: dbl (s.data.toList.take k))).size ≤ 2097153 := by
      rw [strOf_size, List.length_cons]
      have := dbl_len (s.data.toList.take k)
      have h2 : (s.data.toList.take k).length ≤ k := List.length_take_le _ _
      omega
    by_cases hlt : k < s.size
    · have HT := hide (take_snoc s k hlt)
      have HX := hide (extract_one s k hlt)
      by_cases hb : s[k] = 39
      · have hbi : (s[k].toNat : Int) = 39 := by rw [hb]; rfl
        have HN := hide (show strOf (39 :: dbl (s.data.toList.take k)) ++ ⟨#[39]⟩ ++ s.extract k (k + 1) = strOf (39 :: dbl (s.data.toList.take (k + 1))) by
          rw [HX.out, HT.out, dbl_snoc, if_pos hb, hb, show (⟨#[39]⟩ : ByteArray) = strOf [39] from rfl, strOf_append, strOf_append]
          simp)
        clear hb
        generalize strOf (39 :: dbl (s.data.toList.take k)) = u at *
        go_wp2
        rw [HN.out]
        exact ⟨⟨k + 1, by omega, by go_num, rfl⟩, by simp [intOf]; omega⟩
      · have hbi : ¬ ((s[k].toNat : Int) = 39) := fun h => hb (UInt8.toNat_inj.1 (by simp; omega))
        have hbq : ((s[k].toNat : Int) == 39) = false := by simpa using hbi
        have HN := hide (show strOf (39 :: dbl (s.data.toList.take k)) ++ s.extract k (k + 1) = strOf (39 :: dbl (s.data.toList.take (k + 1))) by
          rw [HX.out, HT.out, dbl_snoc, if_neg hb, strOf_append]
          simp)
        clear hb
        generalize strOf (39 :: dbl (s.data.toList.take k)) = u at *
        go_wp2
        rw [HN.out]
        exact ⟨⟨k + 1, by omega, by go_num, rfl⟩, by simp [intOf]; omega⟩
    · have HN := hide (show strOf (39 :: dbl (s.data.toList.take k)) ++ ⟨#[39]⟩ = strOf (quoL s.data.toList) by
        rw [List.take_of_length_le (by have e : s.data.toList.length = s.size := rfl; omega), show (⟨#[39]⟩ : ByteArray) = strOf [39] from rfl, strOf_append]
        rfl)
      generalize strOf (39 :: dbl (s.data.toList.take k)) = u at *
      go_wp2
      go_ret
      rw [← HN.out]
      exact ⟨rfl, rfl⟩
set_option maxRecDepth 100000 in
set_option maxHeartbeats 3000000 in
theorem tokens_walk (s : ByteArray) (w : World) (he : Errs w) (hm : MaxL w) (hs : s.size ≤ 1048576) :
    Calls Tryd.prog 3 #[.string s] w fun e w' => e = .returned (.bool true) ∧ Fr w w' (fun _ => False) := by
  have haw := awake_any w he
  have HE := hide he
  have HM := hide hm
  have HRQ := hide (fun W => rquote_any s W hs)
  clear he hm
  go_enter Tryd.func3, Tryd.ntmps3
  go_wp2_with fail
  refine haw.mono ?_
  rintro e W0 ⟨rfl, hf⟩
  have HF0 := hide hf
  have HE0 := hide (HE.out.fr hf (fun h => h))
  have HM0 := hide (HM.out.fr hf (fun h => h))
  clear hf haw HE HM
  by_cases hlong : 4096 < s.size
  · have ht := tokens_long s W0 hlong (by omega)
    go_wp2_with fail
    refine ht.mono ?_
    rintro e W1 ⟨rfl, hf⟩
    have HF1 := hide ((HF0.out.trans hf).mono (Y := fun _ => False) (by simp))
    have HM1 := hide ((HM0.out.fr hf (fun h => h)).fr (Fr.alloc W1 (.cells #[.int .i64 2, .int .i64 4096] 26) (fun _ => False)) (fun h => h))
    clear hf ht HF0 HM0
    go_wp2_with fail
    refine (ref_long s _ hlong (by omega)).mono ?_
    rintro e W2 ⟨rfl, rfl⟩
    go_wp2_with fail
    refine (same_any [] none none 0 0 _ (.inl rfl) (.inl rfl) (by simp)).mono ?_
    rintro e W3 ⟨rfl, hf⟩
    have HT3 := hide ((newTwo W1 (.int .i64 2) (.int .i64 4096) 26).fr hf (fun h => h))
    have HF3 := hide (((HF1.out.trans (Fr.alloc _ _ (fun _ => False))).trans hf).mono (Y := fun _ => False) (by simp))
    have HM3 := hide (HM1.out.fr hf (fun h => h))
    have d0 := HT3.out.1
    have d1 := HT3.out.2.1
    clear hf HF1 HM1
    go_wp2_with fail
    refine (quote_any s W3 HM3.out hs).mono ?_
    rintro e W4 ⟨rfl, hf⟩
    have HF4 := hide ((HF3.out.trans hf).mono (Y := fun _ => False) (by simp))
    clear hf d0 d1
    go_wp2_with fail
    refine (HRQ.out _).mono ?_
    rintro e W5 ⟨rfl, rfl⟩
    generalize strOf (quoL s.data.toList) = u at *
    go_wp2
    go_ret
    exact ⟨rfl, HF4.out⟩
  · have ht := tokens_short s W0 (by omega) HE0.out
    go_wp2_with fail
    refine ht.mono ?_
    rintro e W1 ⟨h, hf⟩
    have HF1 := hide ((HF0.out.trans hf).mono (Y := fun _ => False) (by simp))
    have HM1 := hide (HM0.out.fr hf (fun h => h))
    clear hf ht HF0 HM0
    rcases h with ⟨T, v, hl, rfl, ho, hlen, _⟩ | ⟨p, hp, hl, rfl⟩
    · obtain ⟨a1, c1, rfl, hc1, _⟩ := ho.shape
      have HO := hide ho
      have HL := hide hl
      clear ho hl
      go_wp2_with fail
      refine (ref_short s _ (by omega)).mono ?_
      rintro e W2 ⟨h, hf⟩
      rcases h with ⟨T2, v2, hl2, rfl, ho2, hlen2, _⟩ | ⟨p, hl2, rfl⟩
      · have e2 := hl2.unique HL.out
        injection e2 with e2
        subst e2
        obtain ⟨a2, c2, rfl, hc2, _⟩ := ho2.shape
        have HT2 := hide ((newTwo W1 (.int .i64 0) (.int .i64 0) 26).fr hf (fun h => h))
        have HF2 := hide (((HF1.out.trans (Fr.alloc _ _ (fun _ => False))).trans hf).mono (Y := fun _ => False) (by simp))
        have HM2 := hide ((HM1.out.fr (Fr.alloc _ _ (fun _ => False)) (fun h => h)).fr hf (fun h => h))
        have HA := hide ((HO.out.fr (Fr.alloc _ _ (fun _ => False)) (fun _ _ h => h)).fr hf (fun _ _ h => h))
        have HB := hide ho2
        clear hf ho2 hl2 HO HF1 HM1 HL
        go_wp2_with fail
        refine (same_any _ a1 a2 c1 c2 W2 HA.out.toks HB.out.toks (by omega)).mono ?_
        rintro e W3 ⟨rfl, hf⟩
        have HT3 := hide (HT2.out.fr hf (fun h => h))
        have HF3 := hide ((HF2.out.trans hf).mono (Y := fun _ => False) (by simp))
        have HM3 := hide (HM2.out.fr hf (fun h => h))
        have d0 := HT3.out.1
        have d1 := HT3.out.2.1
        clear hf HF2 HM2 HT2
        go_wp2_with fail
        refine (quote_any s W3 HM3.out hs).mono ?_
        rintro e W4 ⟨rfl, hf⟩
        have HF4 := hide ((HF3.out.trans hf).mono (Y := fun _ => False) (by simp))
        clear hf d0 d1
        go_wp2_with fail
        refine (HRQ.out _).mono ?_
        rintro e W5 ⟨rfl, rfl⟩
        generalize strOf (quoL s.data.toList) = u at *
        go_wp2
        go_ret
        exact ⟨rfl, HF4.out⟩
      · exact absurd (hl2.unique HL.out) (by simp)
    · have HL := hide hl
      clear hl
      go_wp2_with fail
      refine (ref_short s _ (by omega)).mono ?_
      rintro e W2 ⟨h, hf⟩
      rcases h with ⟨T2, v2, hl2, rfl, ho2, hlen2, _⟩ | ⟨p2, hl2, rfl⟩
      · exact absurd (hl2.unique HL.out) (by simp)
      · have e2 := hl2.unique HL.out
        injection e2 with e2
        subst e2
        have HT2 := hide ((newTwo W1 (.int .i64 140) (.int .i64 p2) 26).fr hf (fun h => h))
        have HF2 := hide (((HF1.out.trans (Fr.alloc _ _ (fun _ => False))).trans hf).mono (Y := fun _ => False) (by simp))
        have HM2 := hide ((HM1.out.fr (Fr.alloc _ _ (fun _ => False)) (fun h => h)).fr hf (fun h => h))
        clear hf hl2 HF1 HM1 HL
        go_wp2_with fail
        refine (same_any [] none none 0 0 W2 (.inl rfl) (.inl rfl) (by simp)).mono ?_
        rintro e W3 ⟨rfl, hf⟩
        have HT3 := hide (HT2.out.fr hf (fun h => h))
        have HF3 := hide ((HF2.out.trans hf).mono (Y := fun _ => False) (by simp))
        have HM3 := hide (HM2.out.fr hf (fun h => h))
        have d0 := HT3.out.1
        have d1 := HT3.out.2.1
        clear hf HF2 HM2 HT2
        go_wp2_with fail
        refine (quote_any s W3 HM3.out hs).mono ?_
        rintro e W4 ⟨rfl, hf⟩
        have HF4 := hide ((HF3.out.trans hf).mono (Y := fun _ => False) (by simp))
        clear hf d0 d1
        go_wp2_with fail
        refine (HRQ.out _).mono ?_
        rintro e W5 ⟨rfl, rfl⟩
        generalize strOf (quoL s.data.toList) = u at *
        go_wp2
        go_ret
        exact ⟨rfl, HF4.out⟩
end Go.Proofs.YtackfnojafinpaaDoor
