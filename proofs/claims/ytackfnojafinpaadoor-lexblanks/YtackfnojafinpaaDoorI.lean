/- The four readers. -/
import Derived.Test.YtackfnojafinpaaDoorF
import Derived.Test.YtackfnojafinpaaDoorH
namespace Go.Proofs.YtackfnojafinpaaDoor
open Go.RowKit
set_option linter.unusedVariables false

theorem word_reads (s : ByteArray) (m : Nat) (w : World) (hs : s.size ≤ 4096) (hm : m < s.size) :
    Calls Tryd.prog 14 #[.string s, .int .i64 m] w fun e w' => Reads (wordR (s.data.toList.drop m)) m e ∧ Fr w w' (fun _ => False) := by
  cases hl : letB s[m] with
  | false =>
    refine (word_no s m w hs hm hl).mono ?_
    rintro e w' ⟨h, hf⟩
    refine ⟨?_, hf⟩
    unfold wordR
    rw [headLet_drop s m hm, hl]
    exact h
  | true =>
    refine (word_yes s m w hs hm hl).mono ?_
    rintro e w' ⟨h, hf⟩
    refine ⟨?_, hf⟩
    unfold wordR
    rw [headLet_drop s m hm, hl]
    exact h
theorem sign_reads (s : ByteArray) (m : Nat) (w : World) (hs : s.size ≤ 4096) (hm : m < s.size) :
    Calls Tryd.prog 17 #[.string s, .int .i64 m] w fun e w' => Reads (signR (s.data.toList.drop m)) m e ∧ Fr w w' (fun _ => False) := by
  refine (sign_any s m w hs hm).mono ?_
  rintro e w' ⟨h, hf⟩
  refine ⟨?_, hf⟩
  unfold SignPost at h
  unfold Reads
  cases hr : signR (s.data.toList.drop m) with
  | none => rw [hr] at h; exact h
  | some x =>
    rw [hr] at h
    unfold signR at hr
    obtain ⟨p, _, rfl⟩ := Option.map_eq_some_iff.1 hr
    exact h
theorem quoted_reads (s : ByteArray) (m : Nat) (w : World) (hs : s.size ≤ 4096) (hm : m < s.size) :
    Calls Tryd.prog 16 #[.string s, .int .i64 m] w fun e w' => Reads (quoteR (s.data.toList.drop m)) m e ∧ Fr w w' (fun _ => False) := by
  by_cases hb : s[m] = 39
  · refine (quoted_yes s m w hs hm hb).mono ?_
    rintro e w' ⟨h, hf⟩
    refine ⟨?_, hf⟩
    unfold QuotePost at h
    unfold Reads
    have e2 : quoteR (s.data.toList.drop m) = (quoteT (s.data.toList.drop (m + 1))).map (fun x => ⟨3, x.1, 0, x.2 + 1⟩) := by rw [drop_byte s m hm, hb]; simp [quoteR]
    cases hr : quoteR (s.data.toList.drop m) with
    | none => rw [hr] at h; exact h
    | some x =>
      rw [hr] at h
      rw [e2] at hr
      obtain ⟨p, _, rfl⟩ := Option.map_eq_some_iff.1 hr
      exact h
  · refine (quoted_no s m w hs hm hb).mono ?_
    rintro e w' ⟨h, hf⟩
    refine ⟨?_, hf⟩
    have e2 : quoteR (s.data.toList.drop m) = none := by rw [drop_byte s m hm]; simp [quoteR, hb]
    rw [e2]
    exact h
theorem headLet_pass (s : ByteArray) (m : Nat) (h : passN digB s m < s.size) : headLet ((s.data.toList.drop m).drop (runL digB (s.data.toList.drop m))) = letB s[passN digB s m] := by
  rw [drop_pass, drop_byte s _ h]; rfl
theorem headLet_over (s : ByteArray) (m : Nat) (h : s.size ≤ passN digB s m) : headLet ((s.data.toList.drop m).drop (runL digB (s.data.toList.drop m))) = false := by
  rw [drop_pass, drop_end s _ h]; rfl
theorem number_any (s : ByteArray) (m : Nat) (w : World) (hs : s.size ≤ 4096) (hm : m < s.size) (he : Errs w) :
    Calls Tryd.prog 15 #[.string s, .int .i64 m] w fun e w' => Reads (numR (s.data.toList.drop m)) m e ∧ Fr w w' (fun _ => False) := by
  have hno : ∀ {e : Ending}, 18 < runL digB (s.data.toList.drop m) ∨ headLet ((s.data.toList.drop m).drop (runL digB (s.data.toList.drop m))) = true ∨ runL digB (s.data.toList.drop m) = 0 → (∃ t : Tok, e = .returned (.tuple #[tokV t, .int .i64 m])) → Reads (numR (s.data.toList.drop m)) m e := by
    intro e h1 h2
    unfold numR
    rw [if_pos h1]
    exact h2
  by_cases h18 : 18 < runL digB (s.data.toList.drop m)
  · refine (number_long s m w hs hm h18).mono ?_
    rintro e w' ⟨h, hf⟩
    exact ⟨hno (.inl h18) h, hf⟩
  · by_cases hlet : ∃ h : passN digB s m < s.size, letB s[passN digB s m] = true
    · obtain ⟨hlt, hl⟩ := hlet
      refine (number_letter s m w hs hm (by omega) hlt hl).mono ?_
      rintro e w' ⟨h, hf⟩
      exact ⟨hno (.inr (.inl (by rw [headLet_pass s m hlt, hl]))) h, hf⟩
    · have hend : ∀ h : passN digB s m < s.size, letB s[passN digB s m] = false := fun h => by
        cases hx : letB s[passN digB s m] with
        | false => rfl
        | true => exact absurd ⟨h, hx⟩ hlet
      by_cases h0 : runL digB (s.data.toList.drop m) = 0
      · have hp : passN digB s m = m := by unfold passN; omega
        refine (number_reads s m w hs hm (by omega) hend 0 (fun w1 hf => parseInt_none _ w1 (by rw [extract_pass, h0]; rfl) (he.fr hf (fun h => h)))).mono ?_
        rintro e w' ⟨h, hf⟩
        refine ⟨hno (.inr (.inr h0)) ⟨⟨2, [], 0, m⟩, ?_⟩, hf⟩
        rw [h, hp]
        rfl
      · have hal : ∀ b ∈ (s.data.toList.drop m).take (runL digB (s.data.toList.drop m)), digB b = true := run_all _ _
        have hln : ((s.data.toList.drop m).take (runL digB (s.data.toList.drop m))).length = runL digB (s.data.toList.drop m) := by
          rw [List.length_take]; have := runL_le digB (s.data.toList.drop m); omega
        refine (number_reads s m w hs hm (by omega) hend (decV ((s.data.toList.drop m).take (runL digB (s.data.toList.drop m)))) (fun w1 hf => parseInt_some _ w1 _ (by rw [ByteArray.size_extract]; omega) ?_)).mono ?_
        · rw [extract_pass]
          exact parse_ok _ hal (fun h => by rw [h] at hln; simp at hln; omega) (by omega)
        · rintro e w' ⟨h, hf⟩
          refine ⟨?_, hf⟩
          unfold numR
          rw [if_neg (by
            intro hc
            rcases hc with hc | hc | hc
            · omega
            · by_cases hlt : passN digB s m < s.size
              · rw [headLet_pass s m hlt, hend hlt] at hc; cases hc
              · rw [headLet_over s m (by omega)] at hc; cases hc
            · omega)]
          exact h
end Go.Proofs.YtackfnojafinpaaDoor
