/- Entries written and read again, plainly. -/
import Derived.Test.YtcmabldfegcdaaaJ
namespace Go.Proofs.Ytcmabldfegcdaaa
open Go.RowKit
set_option maxRecDepth 100000
set_option linter.unusedVariables false

theorem numB_getB (l : List UInt8) (h : l.length ≤ 8) : numB (getB l) l.length = l := by
  have key : ∀ (k : Nat) (l : List UInt8), l.length = k → k ≤ 8 → numB (getB l) k = l := by
    intro k
    induction k with
    | zero => intro l hl _; rw [List.eq_nil_of_length_eq_zero hl]; rfl
    | succ k ih =>
      intro l hl hk
      rcases List.eq_nil_or_concat l with rfl | ⟨a, b, rfl⟩
      · simp at hl
      · rw [List.concat_eq_append] at hl ⊢
        simp at hl
        have h1 := getB_le a (by omega)
        have h2 := b.toNat_lt
        rw [hl] at h1
        have h3 : (256 : Nat) ^ k ≤ 256 ^ 7 := Nat.pow_le_pow_right (by omega) (by omega)
        have h4 : (256 : Nat) ^ 7 = 72057594037927936 := by decide
        rw [getB_snoc, numB, Nat.mod_eq_of_lt (by omega), show (getB a * 256 + b.toNat) / 256 = getB a by omega, ih a hl (by omega)]
        congr 2
        apply UInt8.toNat_inj.1
        simp
  exact key _ l rfl h
theorem wrap64_nat (n : Nat) (h : n < 9223372036854775808) : wrap64 (n : Int) = n := Go.IntWalk.wrap64_in _ ⟨by omega, by omega⟩
theorem wrap64_pos (n : Nat) (h : n < 18446744073709551616) (hp : 1 ≤ wrap64 (n : Int)) : n < 9223372036854775808 := by
  by_cases h1 : n < 9223372036854775808
  · exact h1
  · simp only [wrap64] at hp; omega
theorem wrap64_le (z : Int) : wrap64 z ≤ 9223372036854775807 := by simp only [wrap64]; omega
theorem ofNat_toNat (k : Nat) (h : k < 256) : (UInt8.ofNat k).toNat = k := by simp; omega
theorem numB_one (k : Nat) : numB k 1 = [UInt8.ofNat k] := by simp [numB]

/-- What is written is read again. -/
theorem dec_enc (e : Ent) (h : chk e = 0) (hr : e.txn ≤ 9223372036854775807) : rdE (kd (encE e)) (encE e) = e ∧ decC (encE e) = 0 := by
  have G := chk_good e h
  have hk := G.kind
  have h1 := G.txn
  have h2 := G.page
  have h3 := G.slot
  have h4 := G.stamp
  have hkd : kd (encE e) = e.kind := by
    simp only [kd, encE, numB_one, List.cons_append, List.nil_append, List.headD_cons]
    rw [ofNat_toNat _ (by omega)]
    omega
  have hrd : rdE e.kind (encE e) = e := by
    obtain ⟨kind, txn, page, slot, stamp, data⟩ := e
    simp only [] at *
    unfold rdE encE
    simp only [numB_one, List.cons_append, List.nil_append, List.drop_succ_cons, List.drop_zero, List.append_assoc]
    have t8 := length_numB txn.toNat 8
    have m8 := length_numB stamp.toNat 8
    have p2 := length_numB page.toNat 2
    by_cases hk3 : kind = 3
    · obtain ⟨p0, s0, d0⟩ := G.comm hk3
      simp only [] at p0 s0 d0
      subst hk3 p0 s0 d0
      rw [if_pos rfl, if_pos rfl]
      have e1 : ((numB txn.toNat 8 ++ numB stamp.toNat 8)).take 8 = numB txn.toNat 8 := by rw [List.take_append_of_le_length (by omega), List.take_of_length_le (by omega)]
      have e2 : ((numB txn.toNat 8 ++ numB stamp.toNat 8).drop 8) = numB stamp.toNat 8 := by rw [List.drop_append_of_le_length (by omega), List.drop_of_length_le (by omega)]; rfl
      rw [e1, e2, List.take_of_length_le (by omega), getB_numB _ _ (by omega), getB_numB _ _ (by omega)]
      simp only [wi]
      rw [Nat.mod_eq_of_lt (by omega), Nat.mod_eq_of_lt (by omega), wrap64_nat _ (by omega), wrap64_nat _ (by omega)]
      congr 1
      · omega
      · omega
    · have st0 := G.other hk3
      simp only [] at st0
      subst st0
      rw [if_neg hk3, if_neg hk3]
      have e1 : ((numB txn.toNat 8 ++ (numB page.toNat 2 ++ (UInt8.ofNat slot.toNat :: data)))).take 8 = numB txn.toNat 8 := by rw [List.take_append_of_le_length (by omega), List.take_of_length_le (by omega)]
      have e2 : (numB txn.toNat 8 ++ (numB page.toNat 2 ++ (UInt8.ofNat slot.toNat :: data))).drop 8 = numB page.toNat 2 ++ (UInt8.ofNat slot.toNat :: data) := by rw [List.drop_append_of_le_length (by omega), List.drop_of_length_le (by omega)]; rfl
      have e3 : (numB txn.toNat 8 ++ (numB page.toNat 2 ++ (UInt8.ofNat slot.toNat :: data))).drop 10 = UInt8.ofNat slot.toNat :: data := by
        rw [show (10 : Nat) = 8 + 2 by rfl, ← List.drop_drop, e2, List.drop_append_of_le_length (by omega), List.drop_of_length_le (by omega)]; rfl
      have e4 : (numB txn.toNat 8 ++ (numB page.toNat 2 ++ (UInt8.ofNat slot.toNat :: data))).drop 11 = data := by
        rw [show (11 : Nat) = 10 + 1 by rfl, ← List.drop_drop, e3]; rfl
      rw [e1, e2, e3, e4, List.take_append_of_le_length (by omega), List.take_of_length_le (by omega), getB_numB _ _ (by omega), getB_numB _ _ (by omega)]
      have e5 : getB (List.take 1 (UInt8.ofNat slot.toNat :: data)) = slot.toNat := by
        have h0 := getB_numB slot.toNat 1 (by omega)
        rw [numB_one] at h0
        simp only [List.take_succ_cons, List.take_zero]
        rw [h0]; omega
      rw [e5]
      simp only [wi]
      rw [Nat.mod_eq_of_lt (by omega), Nat.mod_eq_of_lt (by omega), wrap64_nat _ (by omega), wrap64_nat _ (by omega), wrap64_nat _ (by omega)]
      congr 1
      · omega
      · omega
      · omega
  have hlen : (encE e).length = if e.kind = 3 then 17 else 12 + e.data.length := by
    unfold encE
    split <;> simp [length_numB] <;> omega
  refine ⟨by rw [hkd]; exact hrd, ?_⟩
  unfold decC
  rw [hkd, hrd, if_neg (by rw [hlen]; split <;> omega), if_neg (by rw [show kindB e.kind = true from decide_eq_true hk]; simp), if_neg (by rw [hlen]; unfold needN; split <;> omega), if_neg ?_, h]
  rintro ⟨h5, h6⟩
  rw [hlen] at h6
  unfold needN at h6
  by_cases hk3 : e.kind = 3
  · rw [if_pos hk3, if_pos hk3] at h6; omega
  · have := G.ends (by omega)
    rw [if_neg hk3, if_neg hk3, this] at h6
    simp at h6
theorem decE_enc (e : Ent) (h : chk e = 0) (hr : e.txn ≤ 9223372036854775807) : decE (encE e) = e := by
  obtain ⟨h1, h2⟩ := dec_enc e h hr
  rw [decE, if_pos h2, h1]

/-- What is read is what it is written as. -/
theorem enc_dec (l : List UInt8) (h : decC l = 0) : chk (decE l) = 0 ∧ encE (decE l) = l ∧ (decE l).txn ≤ 9223372036854775807 := by
  have hde : decE l = rdE (kd l) l := by rw [decE, if_pos h]
  rw [hde]
  unfold decC at h
  split at h
  · cases h
  · rename_i h0
    split at h
    · cases h
    · rename_i h1
      split at h
      · cases h
      · rename_i h2
        split at h
        · cases h
        · rename_i h3
          have G := chk_good _ h
          refine ⟨h, ?_, ?_⟩
          · obtain ⟨b, r, rfl⟩ : ∃ b r, l = b :: r := by
              cases l with
              | nil => simp at h0
              | cons b r => exact ⟨b, r, rfl⟩
            have hkd : kd (b :: r) = (b.toNat : Int) := rfl
            have hk13 := of_decide_eq_true (show decide (1 ≤ kd (b :: r) ∧ kd (b :: r) ≤ 3) = true by simpa [kindB] using h1)
            rw [hkd] at h2 h3 G hk13 ⊢
            have hb : UInt8.ofNat b.toNat = b := by simp
            by_cases hk3 : (b.toNat : Int) = 3
            · have hl : r.length = 16 := by
                have h2' := h2; have h3' := h3
                rw [needN, if_pos hk3] at h2' h3'
                simp only [List.length_cons] at h2' h3'
                omega
              have ht := G.txn
              have hst := G.stamp
              unfold rdE at ht hst ⊢
              rw [if_pos hk3] at ht hst ⊢
              simp only [List.drop_succ_cons, List.drop_zero, wi] at ht hst ⊢
              have l1 := getB_lt (r.take 8)
              have l2 := getB_lt ((r.drop 8).take 8)
              have g1 := wrap64_pos _ l1 ht
              have g2 : getB ((r.drop 8).take 8) < 9223372036854775808 := by
                by_cases hz : 1 ≤ wrap64 (getB ((r.drop 8).take 8) : Int)
                · exact wrap64_pos _ l2 hz
                · simp only [wrap64] at hz hst; omega
              unfold encE
              simp only [hk3, if_true]
              rw [wrap64_nat _ g1, wrap64_nat _ g2, Int.toNat_natCast, Int.toNat_natCast, numB_one]
              have n1 := numB_getB (r.take 8) (by simp; omega)
              have n2 := numB_getB ((r.drop 8).take 8) (by simp; omega)
              rw [show (r.take 8).length = 8 by simp; omega] at n1
              rw [show ((r.drop 8).take 8).length = 8 by simp; omega] at n2
              have t8 : (r.drop 8).take 8 = r.drop 8 := List.take_of_length_le (by rw [List.length_drop]; omega)
              rw [n1, n2, t8]
              have hb3 : UInt8.ofNat (Int.toNat 3) = b := by rw [← hb]; congr 1; omega
              rw [hb3]
              simp
            · have hl : 11 ≤ r.length := by
                have h2' := h2
                rw [needN, if_neg hk3] at h2'
                simp only [List.length_cons] at h2'
                omega
              have ht := G.txn
              unfold rdE at ht ⊢
              rw [if_neg hk3] at ht ⊢
              simp only [List.drop_succ_cons, List.drop_zero, wi] at ht ⊢
              have g1 := wrap64_pos _ (getB_lt (r.take 8)) ht
              have q2 := getB_le ((r.drop 8).take 2) (by simp; omega)
              have q3 := getB_le ((r.drop 10).take 1) (by simp; omega)
              have s2 : ((r.drop 8).take 2).length = 2 := by simp; omega
              have s3 : ((r.drop 10).take 1).length = 1 := by simp; omega
              rw [s2] at q2
              rw [s3] at q3
              unfold encE
              simp only [hk3, if_false]
              rw [wrap64_nat _ g1, wrap64_nat _ (by omega), wrap64_nat _ (by omega), Int.toNat_natCast, Int.toNat_natCast, Int.toNat_natCast, Int.toNat_natCast, numB_one b.toNat, hb]
              have n1 := numB_getB (r.take 8) (by simp; omega)
              have n2 := numB_getB ((r.drop 8).take 2) (by omega)
              have n3 := numB_getB ((r.drop 10).take 1) (by omega)
              rw [show (r.take 8).length = 8 by simp; omega] at n1
              rw [s2] at n2
              rw [s3] at n3
              rw [n1, n2, n3]
              have t1 : (r.drop 10).take 1 ++ r.drop 11 = r.drop 10 := by
                rw [show (11 : Nat) = 10 + 1 by rfl, ← List.drop_drop]; exact List.take_append_drop 1 _
              have t2 : (r.drop 8).take 2 ++ r.drop 10 = r.drop 8 := by
                rw [show (10 : Nat) = 8 + 2 by rfl, ← List.drop_drop]; exact List.take_append_drop 2 _
              rw [List.append_assoc ((r.drop 8).take 2), t1, t2]
              simp
          · unfold rdE wi
            split <;> exact wrap64_le _
end Go.Proofs.Ytcmabldfegcdaaa
