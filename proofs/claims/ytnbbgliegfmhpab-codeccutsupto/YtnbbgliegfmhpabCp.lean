/- Cut short; one bit turned: plainly. -/
import Derived.Test.YtnbbgliegfmhpabN
import Derived.Test.YtnbbgliegfmhpabY
namespace Go.Proofs.Ytnbbgliegfmhpab

theorem readT_cut (t : List UInt8) (j : Nat) (out : List UInt8) (h : j < (esc t).length + 2) : readT ((esc t ++ [0, 0]).take j) out = .error (20, 0) := by
  induction t generalizing j out with
  | nil =>
    simp only [esc, List.nil_append, List.length_nil] at h ⊢
    match j with
    | 0 => rfl
    | 1 => rw [show ([0, 0] : List UInt8).take 1 = [0] by rfl, readT_z]
    | j + 2 => omega
  | cons b t ih =>
    simp only [esc] at h ⊢
    split at h
    · rename_i hb; subst hb
      simp only [if_true, List.cons_append, List.length_cons] at h ⊢
      match j with
      | 0 => rfl
      | 1 => rw [List.take_succ_cons, List.take_zero, readT_z]
      | j + 2 =>
        rw [List.take_succ_cons, List.take_succ_cons, readT_zf]
        exact ih j _ (by omega)
    · rename_i hb
      simp only [hb, if_false, List.cons_append, List.length_cons] at h ⊢
      match j with
      | 0 => rfl
      | j + 1 =>
        rw [List.take_succ_cons, readT_nz _ _ _ hb]
        exact ih j _ (by omega)

theorem decV_cut (v : Val) (h : checkV v = 0) (c : Nat) (h0 : 0 < c) (hc : c < (encV v).length) : decV ((encV v).take c) = .error (20, 0) := by
  obtain ⟨k, n, t⟩ := v
  simp only [checkV, encV] at h hc ⊢
  obtain ⟨c, rfl⟩ : ∃ d, c = d + 1 := ⟨c - 1, by omega⟩
  split at h
  · rename_i h1
    rw [if_pos h1.1] at hc ⊢
    simp [length_numB] at hc
    rw [List.take_succ_cons]
    exact decV_short _ (by simp [length_numB]; omega)
  · split at h
    · rename_i h1
      rw [if_neg (by omega)] at hc ⊢
      simp at hc
      rw [List.take_succ_cons]
      exact decV_terr _ _ (readT_cut t c [] (by omega))
    · cases h

theorem decL_cut (L : List Val) (hw : Wf L) (h : checkL L = 0) (c : Nat) (out : List Val) : decL ((encL L).take c) out = .error (20, 0) ∨ ∃ j, decL ((encL L).take c) out = .ok (out ++ L.take j) := by
  induction L generalizing c out with
  | nil => right; exact ⟨0, by simp [encL, decL_nil]⟩
  | cons v r ih =>
    simp only [checkL] at h
    split at h
    · rename_i h1
      by_cases h0 : c = 0
      · subst h0
        right
        exact ⟨0, by simp [decL_nil]⟩
      · by_cases hc : c < (encV v).length
        · left
          rw [encL, List.take_append_of_le_length (by omega)]
          refine decL_err _ _ _ (decV_cut v h1 c (by omega) hc) ?_
          intro he
          have := congrArg List.length he
          rw [List.length_take, List.length_nil] at this
          omega
        · rw [encL, List.take_append, List.take_of_length_le (by omega), decL_step _ _ _ _ (decV_encV v _ (hw v (by simp)) h1)]
          rcases ih (fun x hx => hw x (by simp [hx])) h (c - (encV v).length) (out ++ [v]) with h2 | ⟨j, h2⟩
          · exact .inl h2
          · right
            exact ⟨j + 1, by rw [h2]; simp⟩
    · contradiction

theorem cut_ans (L : List Val) (hw : Wf L) (h : checkL L = 0) (c : Nat) (hc : c ≤ (encL L).length) :
    (decCode ((encL L).take c) = 20 ∧ decAt ((encL L).take c) = c ∧ decOut ((encL L).take c) = []) ∨
    (decCode ((encL L).take c) = 0 ∧ decAt ((encL L).take c) = 0 ∧ checkL (decOut ((encL L).take c)) = 0 ∧ encL (decOut ((encL L).take c)) = (encL L).take c ∧ (decOut ((encL L).take c)).length ≤ L.length) := by
  rcases decL_cut L hw h c [] with h1 | ⟨j, h1⟩
  · left
    simp [decCode, decAt, decOut, h1]
    omega
  · right
    have h2 := enc_dec _ _ h1
    rw [List.nil_append] at h1 h2
    refine ⟨by simp [decCode, h1], by simp [decAt, h1], ?_, ?_, ?_⟩
    · simp only [decOut, h1]; exact h2.1
    · simp only [decOut, h1]; exact h2.2.1
    · simp only [decOut, h1, List.length_take]; omega

theorem stir1_top (s : Nat) (hs : s < 4294967296) : bitN (stir1 s) 31 = s % 2 := by
  have h0 : bitN (s / 2) 31 = 0 := bitN_big _ _ (by omega)
  unfold stir1
  split
  · rename_i h
    rw [bitN_xor, h0, h]
    decide
  · rename_i h
    rw [h0]; omega
theorem stir1_inj (s t : Nat) (hs : s < 4294967296) (ht : t < 4294967296) (h : stir1 s = stir1 t) : s = t := by
  have h1 := stir1_top s hs
  have h2 := stir1_top t ht
  rw [h] at h1
  apply eq_of_half
  · unfold stir1 at h
    rw [← h1, h2] at h
    split at h
    · have := congrArg (· ^^^ 3988292384) h
      simpa [Nat.xor_assoc] using this
    · exact h
  · omega
theorem stirN_inj : ∀ (k s t : Nat), s < 4294967296 → t < 4294967296 → stirN k s = stirN k t → s = t
  | 0, _, _, _, _, h => h
  | k + 1, s, t, hs, ht, h => stir1_inj s t hs ht (stirN_inj k _ _ (stir1_lt s hs) (stir1_lt t ht) h)
theorem crcFrom_inj (l : List UInt8) : ∀ (s t : Nat), s < 4294967296 → t < 4294967296 → crcFrom s l = crcFrom t l → s = t := by
  induction l with
  | nil => exact fun _ _ _ _ h => h
  | cons b r ih =>
    intro s t hs ht h
    have h1 := ih _ _ (stirN_lt 8 _ (xor_byte_lt s b hs)) (stirN_lt 8 _ (xor_byte_lt t b ht)) h
    have h2 := stirN_inj 8 _ _ (xor_byte_lt s b hs) (xor_byte_lt t b ht) h1
    have h3 := congrArg (· ^^^ b.toNat) h2
    simpa [Nat.xor_assoc] using h3
theorem crc_turned (l : List UInt8) (i : Nat) (u x : UInt8) (hu : l[i]? = some u) (hx : x ≠ u) : crc (l.set i x) ≠ crc l := by
  obtain ⟨h1, h2⟩ := List.getElem?_eq_some_iff.1 hu
  intro h
  unfold crc at h
  have b1 := crcFrom_lt (l.set i x) 4294967295 (by omega)
  have b2 := crcFrom_lt l 4294967295 (by omega)
  have h3 : crcFrom 4294967295 (l.set i x) = crcFrom 4294967295 l := by omega
  have e1 : l.set i x = l.take i ++ x :: l.drop (i + 1) := List.set_eq_take_append_cons_drop.trans (by rw [if_pos h1])
  have e2 : l = l.take i ++ u :: l.drop (i + 1) := by rw [← h2, ← List.drop_eq_getElem_cons h1, List.take_append_drop]
  rw [e1] at h3
  conv at h3 => rhs; rw [e2]
  rw [crcFrom_append, crcFrom_append] at h3
  have hs := crcFrom_lt (l.take i) 4294967295 (by omega)
  have h4 := crcFrom_inj (l.drop (i + 1)) _ _ (stirN_lt 8 _ (xor_byte_lt _ x hs)) (stirN_lt 8 _ (xor_byte_lt _ u hs)) h3
  have h5 := stirN_inj 8 _ _ (xor_byte_lt _ x hs) (xor_byte_lt _ u hs) h4
  have h6 := congrArg (crcFrom 4294967295 (l.take i) ^^^ ·) h5
  simp only [← Nat.xor_assoc, Nat.xor_self, Nat.zero_xor] at h6
  exact hx (UInt8.toNat_inj.1 h6)
end Go.Proofs.Ytnbbgliegfmhpab
