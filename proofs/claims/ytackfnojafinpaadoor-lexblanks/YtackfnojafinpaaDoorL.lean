/- The law on numbers: its walk. -/
import Derived.Test.YtackfnojafinpaaDoorK
namespace Go.Proofs.YtackfnojafinpaaDoor
open Go.RowKit
set_option linter.unusedVariables false

theorem decF_acc : ∀ (l : List UInt8) (acc : Nat), decF acc l = acc * 10 ^ l.length + decF 0 l
  | [], acc => by simp [decF]
  | b :: l, acc => by
    have h1 : decF acc (b :: l) = decF (acc * 10 + (b.toNat - 48)) l := rfl
    have h2 : decF 0 (b :: l) = decF (0 * 10 + (b.toNat - 48)) l := rfl
    rw [h1, h2, decF_acc l (acc * 10 + (b.toNat - 48)), decF_acc l (0 * 10 + (b.toNat - 48)), List.length_cons, Nat.pow_succ, Nat.add_mul, Nat.zero_mul, Nat.zero_add]
    have : acc * 10 * 10 ^ l.length = acc * (10 ^ l.length * 10) := by rw [Nat.mul_assoc, Nat.mul_comm 10]
    omega
theorem decV_cons (b : UInt8) (l : List UInt8) : decV (b :: l) = (b.toNat - 48) * 10 ^ l.length + decV l := by
  have h : decV (b :: l) = decF (0 * 10 + (b.toNat - 48)) l := rfl
  rw [h, decF_acc, decV_eq]; simp
theorem decV_noughts (k : Nat) (l : List UInt8) : decV (List.replicate k 48 ++ l) = decV l := by
  induction k with
  | zero => rfl
  | succ k ih => rw [List.replicate_succ, List.cons_append, decV_cons, ih]; simp
theorem sign_digit (b : UInt8) (r : List UInt8) (hb : digB b = true) : signR (b :: r) = none := by
  unfold signR
  rw [List.find?_eq_none.2 ?_]
  · rfl
  · intro p hp
    have hd := digB_nat hb
    simp only [signs, List.mem_cons, List.not_mem_nil, or_false] at hp
    rcases hp with rfl | rfl | rfl | rfl | rfl | rfl | rfl | rfl | rfl | rfl | rfl | rfl | rfl | rfl <;>
      (simp only [Lib.hasPrefix, List.isPrefixOf, Bool.and_eq_true, beq_iff_eq, not_and]; intro h; subst h; exact absurd hd (by decide))
theorem word_digit (b : UInt8) (r : List UInt8) (hb : digB b = true) : wordR (b :: r) = none := by
  have hd := digB_nat hb
  unfold wordR
  have : letB b = false := by
    rw [letB_int]; simp; omega
  simp [headLet, this]
theorem quote_digit (b : UInt8) (r : List UInt8) (hb : digB b = true) : quoteR (b :: r) = none := by
  have hd := digB_nat hb
  have : b ≠ 39 := by intro e; subst e; exact absurd hd (by decide)
  simp [quoteR, this]
theorem gap_digit (b : UInt8) (hb : digB b = true) : gapB b = false := by
  have hd := digB_nat hb
  rw [gapB_int]; simp; omega
theorem run_digits (l : List UInt8) (h : ∀ b ∈ l, digB b = true) : runL digB l = l.length :=
  run_of_prefix digB l l.length (Nat.le_refl _) (by simpa using h) (fun b hb => by simp at hb)
/-- A text of digits alone is one number, or none. -/
theorem lex_digits (l : List UInt8) (h : ∀ b ∈ l, digB b = true) (h0 : l ≠ []) (h18 : l.length ≤ 18) : Lex 0 l (.ok [⟨2, [], decV l, 0⟩]) := by
  cases l with
  | nil => exact absurd rfl h0
  | cons b r =>
    have hb := h b (by simp)
    have hr := run_digits _ h
    have hn : numR (b :: r) = some ⟨2, [], decV (b :: r), (b :: r).length⟩ := by
      unfold numR
      rw [hr, List.drop_length, List.take_length, if_neg]
      simp [headLet]; simpa using h18
    have h1 : oneR (b :: r) = some ⟨2, [], decV (b :: r), (b :: r).length⟩ := by simp [oneR, word_digit b r hb, hn]
    exact Lex.take _ (gap_digit b hb) h1 (by rw [List.drop_length]; exact .nil _)
theorem lex_many (l : List UInt8) (h : ∀ b ∈ l, digB b = true) (h18 : 18 < l.length) : Lex 0 l (.bad 0) := by
  cases l with
  | nil => simp at h18
  | cons b r =>
    have hb := h b (by simp)
    have hr := run_digits _ h
    have hn : numR (b :: r) = none := by
      unfold numR
      rw [hr, if_pos (.inl h18)]
    exact .bad (gap_digit b hb) (by simp [oneR, word_digit b r hb, hn, quote_digit b r hb, sign_digit b r hb])
/-- The digits of a number, as far as they are written: the ones so far, and what is left. -/
structure DInv (n m : Nat) (D : List UInt8) : Prop where
  dig : ∀ b ∈ D, digB b = true
  val : decV D + m * 10 ^ D.length = n
theorem DInv.next {n m : Nat} {D : List UInt8} (h : DInv n m D) : DInv n (m / 10) (UInt8.ofNat (48 + m % 10) :: D) := by
  have ht : (UInt8.ofNat (48 + m % 10)).toNat = 48 + m % 10 := by simp; omega
  refine ⟨fun b hb => ?_, ?_⟩
  · rcases List.mem_cons.1 hb with rfl | hb
    · rw [digB_int, ht]; simp; omega
    · exact h.dig b hb
  · rw [decV_cons, ht, List.length_cons, Nat.pow_succ]
    have e := h.val
    have e2 : m * 10 ^ D.length = (m / 10) * (10 ^ D.length * 10) + (m % 10) * 10 ^ D.length := by
      conv => lhs; rw [← Nat.div_add_mod m 10]
      rw [Nat.add_mul, Nat.mul_comm 10, Nat.mul_assoc, Nat.mul_comm 10]
    have e3 : 48 + m % 10 - 48 = m % 10 := by omega
    rw [e3]
    omega
theorem DInv.short {n m : Nat} {D : List UInt8} (h : DInv n m D) (hn : n < 1000000000000000000) (hm : 0 < m) : D.length < 18 := by
  have e := h.val
  rcases Nat.lt_or_ge D.length 18 with h' | h'
  · exact h'
  · have h1 : (10 : Nat) ^ 18 ≤ 10 ^ D.length := Nat.pow_le_pow_right (by omega) h'
    have e18 : (10 : Nat) ^ 18 = 1000000000000000000 := by decide
    have h2 : 1 * 10 ^ D.length ≤ m * 10 ^ D.length := Nat.mul_le_mul_right _ hm
    omega
theorem strOf_append (a b : List UInt8) : strOf a ++ strOf b = strOf (a ++ b) := by
  apply ByteArray.ext
  simp [strOf]
theorem digit_str (d : Nat) (h : d < 10) (D : List UInt8) : (⟨#[48, 49, 50, 51, 52, 53, 54, 55, 56, 57]⟩ : ByteArray).extract d (d + 1) ++ strOf D = strOf (UInt8.ofNat (48 + d) :: D) := by
  have e : (⟨#[48, 49, 50, 51, 52, 53, 54, 55, 56, 57]⟩ : ByteArray).extract d (d + 1) = strOf [UInt8.ofNat (48 + d)] := by
    obtain rfl | rfl | rfl | rfl | rfl | rfl | rfl | rfl | rfl | rfl : d = 0 ∨ d = 1 ∨ d = 2 ∨ d = 3 ∨ d = 4 ∨ d = 5 ∨ d = 6 ∨ d = 7 ∨ d = 8 ∨ d = 9 := by omega
    all_goals rfl
  rw [e, strOf_append]
  rfl
theorem nought_str (D : List UInt8) : (⟨#[48]⟩ : ByteArray) ++ strOf D = strOf (48 :: D) := by
  have e : (⟨#[48]⟩ : ByteArray) = strOf [48] := rfl
  rw [e, strOf_append]
  rfl
theorem DInv.le {n m : Nat} {D : List UInt8} (h : DInv n m D) : m ≤ n := by
  have e := h.val
  have : m * 1 ≤ m * 10 ^ D.length := Nat.mul_le_mul_left m (Nat.one_le_pow _ _ (by omega))
  omega
theorem str_toList (D : List UInt8) : (strOf D).toList = D := by rw [Lib.toList_data, strOf_toList]
def strLen : Value → Nat
  | .string s => s.size
  | _ => 0
theorem tokens_many (L : List UInt8) (w : World) (he : Errs w) (h : ∀ b ∈ L, digB b = true) (h18 : 18 < L.length) (hl : L.length ≤ 4096) :
    Calls Tryd.prog 9 #[.string (strOf L)] w fun e w' => e = .returned (.tuple #[.slice none 0 0, .agg #[.int .i64 140, .int .i64 0]]) ∧ Fr w w' (fun _ => False) := by
  have hlex := lex_many L h h18
  refine (tokens_short (strOf L) w (by rw [strOf_size]; exact hl) he).mono ?_
  rintro e w' ⟨hp, hf⟩
  rw [← strOf_toList L] at hlex
  rcases hp with ⟨T, v, hl2, _⟩ | ⟨p, _, hl2, rfl⟩
  · exact absurd (hl2.unique hlex) (by simp)
  · have e := hl2.unique hlex
    injection e with e
    subst e
    exact ⟨rfl, hf⟩
theorem tokens_digits (L : List UInt8) (w : World) (he : Errs w) (h : ∀ b ∈ L, digB b = true) (h0 : L ≠ []) (h18 : L.length ≤ 18) :
    Calls Tryd.prog 9 #[.string (strOf L)] w fun e w' => ∃ g c, e = .returned (.tuple #[.slice (some ⟨g, 0, none⟩) 1 c, .agg #[.int .i64 0, .int .i64 0]]) ∧ g < w'.heap.size ∧ w'.cell? ⟨g, 0, none⟩ = some (.int .i64 2) ∧ w'.cell? ⟨g, 1, none⟩ = some (.string ⟨#[]⟩) ∧ w'.cell? ⟨g, 2, none⟩ = some (.int .i64 (decV L)) ∧ 1 ≤ c ∧ Fr w w' (fun _ => False) := by
  have hlex := lex_digits L h h0 h18
  refine (tokens_short (strOf L) w (by rw [strOf_size]; omega) he).mono ?_
  rintro e w' ⟨hp, hf⟩
  have hlex2 : Lex 0 (strOf L).data.toList (.ok [⟨2, [], decV L, 0⟩]) := by rw [strOf_toList]; exact hlex
  rcases hp with ⟨T, v, hl2, rfl, ho, _, _⟩ | ⟨p, _, hl2, _⟩
  · have e := hl2.unique hlex2
    injection e with e
    subst e
    obtain ⟨a, c, rfl, hc, _⟩ := ho.shape
    obtain ⟨g, rfl, k0, k1, k2, _⟩ := ho.toks.get (Fr.refl _ _) 0 _ rfl
    exact ⟨g, c, rfl, World.block_lt_of_cell? _ _ k0, k0, k1, k2, hc, hf⟩
  · exact absurd (hl2.unique hlex2) (by simp)
set_option maxRecDepth 100000 in
set_option maxHeartbeats 2000000 in
theorem numbers_walk (n k : Int) (w : World) (he : Errs w) :
    Calls Tryd.prog 7 #[.int .i64 n, .int .i64 k] w fun e w' => e = .returned (.bool true) ∧ Fr w w' (fun _ => False) := by
  have haw := awake_any w he
  by_cases hout : n < 0 ∨ 1000000000000000000 ≤ n ∨ k < 0 ∨ 30 < k
  · clear he
    have hd : (decide (n < 0) || decide (1000000000000000000 ≤ n) || decide (k < 0) || decide (30 < k)) = true := by
      simp only [Bool.or_eq_true, decide_eq_true_eq]
      omega
    clear hout
    go_enter Tryd.func7, Tryd.ntmps7
    go_wp2_with fail
    refine haw.mono ?_
    rintro e W ⟨rfl, hf⟩
    have HF := hide hf
    clear hf
    go_wp2
    all_goals (go_ret; exact ⟨rfl, HF.out⟩)
  · obtain ⟨N, hnN⟩ : ∃ N : Nat, n = N := ⟨n.toNat, by omega⟩
    obtain ⟨Q, hkQ⟩ : ∃ Q : Nat, k = Q := ⟨k.toNat, by omega⟩
    have HN := hide (show N < 1000000000000000000 by omega)
    have HQ := hide (show Q ≤ 30 by omega)
    have h1 : 0 ≤ n := by omega
    have h2 : n < 1000000000000000000 := by omega
    have h3 : 0 ≤ k := by omega
    have h4 : k ≤ 30 := by omega
    have HnN := hide hnN
    have HkQ := hide hkQ
    clear hout hnN hkQ
    have HE := hide he
    clear he
    go_enter Tryd.func7, Tryd.ntmps7
    go_wp2_with fail
    refine haw.mono ?_
    rintro e W ⟨rfl, hf⟩
    have HF := hide hf
    clear hf
    go_wp2
    go_loop [5, 6] (fun x y => ∃ (m : Nat) (D : List UInt8), x = .string (strOf D) ∧ y = .int .i64 m ∧ DInv N m D ∧ D.length ≤ 18) (fun x _ => 18 - strLen x)
    case atStart => exact ⟨N, [], rfl, by rw [HnN.out], ⟨by simp, by simp [decV]⟩, by simp⟩
    case round =>
      obtain ⟨m, D, rfl, rfl, hinv, hlen⟩ := hrel
      have HI := hide hinv
      have hsz := strOf_size D
      have hle := hinv.le
      have hm2 : (m : Int) < 1000000000000000000 := by have := HN.out; omega
      have HD := hide (digit_str (m % 10) (by omega) D)
      clear hle
      by_cases hm : 0 < m
      · have hl18 := hinv.short HN.out hm
        clear hinv
        go_wp2
        rw [HD.out]
        refine ⟨⟨m / 10, _, rfl, by go_num, HI.out.next, by simp; omega⟩, ?_⟩
        simp only [strLen, strOf_size, List.length_cons]
        omega
      · obtain rfl : m = 0 := by omega
        cases D with
        | nil =>
          clear hinv
          have HD : Hid ((⟨#[48, 49, 50, 51, 52, 53, 54, 55, 56, 57]⟩ : ByteArray).extract 0 1 ++ strOf [] = strOf [48]) := HD
          have hst : (strOf []).toList.isEmpty = true := by rw [str_toList]; rfl
          have hst2 : ((strOf []).toList = []) = True := by simp [str_toList]
          go_wp2
          rw [HD.out]
          refine ⟨⟨0, [48], rfl, rfl, HI.out.next, by simp⟩, ?_⟩
          simp [strLen, strOf_size]
        | cons d D =>
          clear hinv HD
          have hst : (strOf (d :: D)).toList.isEmpty = false := by rw [str_toList]; rfl
          have hst2 : ((strOf (d :: D)).toList = []) = False := by simp [str_toList]
          have HV := hide (show decV (d :: D) = N by have := HI.out.val; simpa using this)
          have HDG := hide HI.out.dig
          have HL := hide hlen
          have HNE := hide (show d :: D ≠ [] by simp)
          go_wp2
          clear hst hst2 hsz hlen HI
          generalize d :: D = D0 at *
          go_loop [5, 7] (fun x y => ∃ j : Nat, x = .string (strOf (List.replicate j 48 ++ D0)) ∧ y = .int .i64 j ∧ j ≤ Q) (fun _ y => Q - (intOf y).toNat)
          case atStart => exact ⟨0, by simp, rfl, by omega⟩
          case round =>
            obtain ⟨j, rfl, rfl, hj⟩ := hrel
            by_cases hjq : j < Q
            · have hjk : (j : Int) < k := by rw [HkQ.out]; omega
              have HS := hide (nought_str (List.replicate j 48 ++ D0))
              have hsz : (strOf (List.replicate j 48 ++ D0)).size ≤ 48 := by rw [strOf_size]; have := HQ.out; have := HL.out; simp at this ⊢; omega
              go_wp2
              rw [HS.out]
              refine ⟨⟨j + 1, by rw [List.replicate_succ, List.cons_append], by go_num, by omega⟩, ?_⟩
              simp [intOf]; omega
            · obtain rfl : j = Q := by omega
              have hjk : ¬ (j : Int) < k := by rw [HkQ.out]; omega
              have hdl : ∀ b ∈ List.replicate j 48 ++ D0, digB b = true := by
                intro b hb
                rcases List.mem_append.1 hb with hb | hb
                · rw [List.eq_of_mem_replicate hb]; decide
                · exact HDG.out b hb
              have hll : (List.replicate j 48 ++ D0).length ≤ 48 := by have := HQ.out; have := HL.out; simp at this ⊢; omega
              have hvl : decV (List.replicate j 48 ++ D0) = N := by rw [decV_noughts]; exact HV.out
              have hne : List.replicate j 48 ++ D0 ≠ [] := fun h => HNE.out (List.append_eq_nil_iff.1 h).2
              generalize List.replicate j 48 ++ D0 = L at *
              have hsz := strOf_size L
              have HEW := hide (HE.out.fr HF.out (fun h => h))
              by_cases h18 : 18 < L.length
              · have ht := tokens_many L W HEW.out hdl h18 (by omega)
                have h18i : (18 : Int) < (L.length : Int) := by omega
                clear hdl hvl hne HV HDG HL HNE
                go_wp2_with (go_at_call 9; refine ht.mono ?_; rintro e W1 ⟨rfl, hf1⟩; have HF1 := hide hf1; clear hf1 ht)
                go_ret
                exact ⟨rfl, ((HF.out.trans HF1.out).trans (Fr.alloc _ _ (fun _ => False))).mono (by simp)⟩
              · have ht := tokens_digits L W HEW.out hdl hne (by omega)
                have h18i : ¬ (18 : Int) < (L.length : Int) := by omega
                rw [hvl, ← HnN.out] at ht
                clear hdl hvl hne HV HDG HL HNE
                go_wp2_with (go_at_call 9; refine ht.mono ?_; rintro e W1 ⟨g, c, rfl, hg, k0, k1, k2, hc, hf1⟩; have HF1 := hide hf1; clear hf1 ht)
                go_ret
                exact ⟨rfl, ((HF.out.trans HF1.out).trans (Fr.alloc _ _ (fun _ => False))).mono (by simp)⟩
end Go.Proofs.YtackfnojafinpaaDoor
