/- Numbers in order; values one by one: the walk of CodecRound. -/
import Derived.Test.YtnbbgliegfmhpaaR
namespace Go.Proofs.Ytnbbgliegfmhpaa
open Go.RowKit

theorem less_numB (n m k : Nat) : Op.bytesLess (numB n k) (numB m k) = decide (n % 256 ^ k < m % 256 ^ k) := by
  induction k with
  | zero => simp [numB, Op.bytesLess, Nat.mod_one]
  | succ k ih =>
    rw [numB_cons, numB_cons, Op.bytesLess, ih, Nat.pow_succ, Nat.mod_mul, Nat.mod_mul]
    have hp : 0 < 256 ^ k := Nat.pow_pos (by omega)
    have h1 : n % 256 ^ k < 256 ^ k := Nat.mod_lt _ hp
    have h2 : m % 256 ^ k < 256 ^ k := Nat.mod_lt _ hp
    have e1 : (UInt8.ofNat (n / 256 ^ k) < UInt8.ofNat (m / 256 ^ k)) ↔ n / 256 ^ k % 256 < m / 256 ^ k % 256 := by
      rw [UInt8.lt_iff_toNat_lt]; simp
    have e2 : (UInt8.ofNat (n / 256 ^ k) = UInt8.ofNat (m / 256 ^ k)) ↔ n / 256 ^ k % 256 = m / 256 ^ k % 256 := by
      rw [← UInt8.toNat_inj]; simp
    generalize n / 256 ^ k % 256 = p at *
    generalize m / 256 ^ k % 256 = q at *
    generalize n % 256 ^ k = r at *
    generalize m % 256 ^ k = t at *
    generalize 256 ^ k = B at *
    rw [Bool.eq_iff_iff]
    simp only [Bool.or_eq_true, decide_eq_true_eq, Bool.and_eq_true, beq_iff_eq, e1, e2]
    constructor
    · rintro (h | ⟨h, h3⟩)
      · have : B * p + B ≤ B * q := by rw [← Nat.mul_succ]; exact Nat.mul_le_mul_left _ h
        omega
      · subst h; omega
    · intro h
      rcases Nat.lt_trichotomy p q with h3 | h3 | h3
      · exact .inl h3
      · subst h3; exact .inr ⟨rfl, by omega⟩
      · have : B * q + B ≤ B * p := by rw [← Nat.mul_succ]; exact Nat.mul_le_mul_left _ h3
        omega
theorem less_eight (n m : Nat) (hn : n < 18446744073709551616) (hm : m < 18446744073709551616) : Op.bytesLess (numB n 8) (numB m 8) = decide (n < m) := by
  rw [less_numB, Nat.mod_eq_of_lt (by omega), Nat.mod_eq_of_lt (by omega)]
theorem get_put (n : Nat) (hn : n < 18446744073709551616) : getB (numB n 8) = n := by
  rw [getB_numB _ _ (by omega), Nat.mod_eq_of_lt (by omega)]

theorem Vals.keep {w w' : World} {a : Option Addr} {L : List Val} (h : Vals w a L) (hf : Fr w w' (fun _ => False)) : Vals w' a L := by
  rcases h with h | ⟨g, off, rfl, hc⟩
  · exact .inl h
  · refine .inr ⟨g, off, rfl, fun j v hv => ?_⟩
    obtain ⟨h1, h2, h3⟩ := hc j v hv
    have hb : g < w.heap.size := World.block_lt_of_cell? w _ h1
    have e : ∀ o, w'.cell? ⟨g, o, none⟩ = w.cell? ⟨g, o, none⟩ := fun o => World.cell?_of_block (w := w) (hf.block g hb id)
    exact ⟨by rw [e]; exact h1, by rw [e]; exact h2, by rw [e]; exact h3⟩

set_option maxRecDepth 100000 in
set_option maxHeartbeats 4000000 in
theorem round_walk (n m : Nat) (hn : n < 18446744073709551616) (hm : m < 18446744073709551616) (a : Option Addr) (c : Nat) (L : List Val) (w : World) (hv : Vals w a L) (hL : L.length ≤ 1048576) :
    Calls Try.prog 8 #[.int .u64 n, .int .u64 m, .slice a L.length c] w fun e w' => e = .returned (.bool true) ∧ Fr w w' (fun _ => False) := by
  have HV := hide hv
  clear hv
  go_enter Try.func8, Try.ntmps8
  go_wp2_with fail
  refine (awake_any w).mono ?_
  rintro e w1 ⟨rfl, F1⟩
  have HF1 := hide F1
  clear F1
  go_wp2_with fail
  refine (put_any none 0 0 [] n 8 8 (by omega) w1 ⟨rfl, .inl rfl⟩ (fun _ => rfl) (by omega)).mono ?_
  rintro e w2 ⟨v2, rfl, ho2, F2, u2⟩
  rw [List.nil_append] at ho2
  have s2 := F2.size
  have HF2 := hide ((HF1.out.trans F2).mono (Y := fun _ => False) (by simp))
  have HO2 := hide ho2
  clear F2 ho2 HF1
  go_wp2_with fail
  refine (put_any none 0 0 [] m 8 8 (by omega) w2 ⟨rfl, .inl rfl⟩ (fun _ => rfl) (by omega)).mono ?_
  rintro e w3 ⟨v3, rfl, ho3, F3, u3⟩
  rw [List.nil_append] at ho3
  have hb2 := (HO2.out.fr F3 (fun _ _ h => h))
  obtain ⟨a2, c2, rfl⟩ := hb2.shape
  obtain ⟨a3, c3, rfl⟩ := ho3.shape
  have hb2 := hb2.bi
  have hb3 := ho3.bi
  have l2 : (numB n 8).length = 8 := by simp [length_numB]
  have l3 : (numB m 8).length = 8 := by simp [length_numB]
  rw [l2] at hb2
  rw [l3] at hb3
  rw [l3]
  rw [l2] at *
  have HF3 := hide ((HF2.out.trans F3).mono (Y := fun _ => False) (by simp))
  have HB2 := hide hb2
  have HB3 := hide hb3
  have hcv2 := run_string w3 a2 8 c2 _ hb2.bin
  have hcv3 := run_string w3 a3 8 c3 _ hb3.bin
  have g2 := get_put n hn
  have g3 := get_put m hm
  clear F3 ho3 hb2 hb3 HF2 HO2 u2 u3 l2 l3
  have hcm : Op.bytesLess (strOf (numB n 8)).toList (strOf (numB m 8)).toList = decide (n < m) := by rw [toList_strOf, toList_strOf]; exact less_eight n m hn hm
  go_wp2_with (first | (go_at_call 14; refine (get_any a2 8 c2 _ w3 HB2.out (by omega)).mono ?_; rintro e w' ⟨rfl, rfl⟩) | (go_at_call 14; refine (get_any a3 8 c3 _ w' HB3.out (by omega)).mono ?_; rintro e w'' ⟨rfl, rfl⟩))
  clear hcv2 hcv3 hcm g2 g3 HB2 HB3
  go_loopw [9, 52] (fun x i wr => ∃ k : Nat, k ≤ L.length ∧ i = .int .i64 k ∧ Fr w wr (fun _ => False) ∧ checkL (L.take k) = 0 ∧ OwnB wr x (encL (L.take k)) ∧ ∀ q, x.ownBlock = some q → w.heap.size ≤ q) (fun _ i _ => L.length - (intOf i).toNat)
  case atStart => exact ⟨0, by omega, rfl, HF3.out, rfl, OwnB.nil _, by simp [Value.ownBlock]⟩
  case round =>
    rename World => w7
    obtain ⟨k, hk, rfl, hf, hck, ho, hup⟩ := hrel
    have HLE := hide (by
      have := length_encL _ hck
      rw [List.length_take] at this
      omega : (encL (L.take k)).length ≤ 131 * 1048576)
    have HF := hide hf
    have HCK := hide hck
    have HO := hide ho
    have HUP := hide hup
    clear hf hck ho hup
    by_cases hlt : k < L.length
    · obtain ⟨v, hv⟩ : ∃ v, L[k]? = some v := ⟨_, List.getElem?_eq_getElem hlt⟩
      have HTK := hide (checkL_take L k v hv HCK.out)
      have HTA := hide (by rw [List.take_add_one, hv, Option.toList_some, encL_append]; simp [encL] : encL (L.take (k + 1)) = encL (L.take k) ++ encV v)
      obtain ⟨g, off, rfl, c0, c1, c2⟩ := HV.out.get (HF.out.mono (by simp)) k v hv
      clear hv
      go_wp2_with fail
      have F8 : Fr w7 ((w7.alloc (.cells #[.int .i64 v.kind, .int .i64 v.num, .string (strOf v.text)] 52)).alloc (.cells #[.int .i64 v.kind, .int .i64 v.num, .string (strOf v.text)] 52)) (fun _ => False) := up_two
      have HO8 := hide (HO.out.fr F8 (fun _ _ h => h))
      have F08 : Fr w _ (fun _ => False) := (HF.out.trans F8).mono (by simp)
      have h1v : checkL [v] = checkV v := by simp only [checkL]; split <;> simp_all
      refine (encode_any (some ⟨w7.heap.size + 1, 0, none⟩) 1 [v] _ (vals_block (heap_alloc2_new w7 _ _)) (by simp)).mono ?_
      rintro e w9 ⟨x9, rfl, ho9, F9, u9'⟩
      rw [h1v]
      obtain ⟨a9, c9, rfl⟩ := ho9.shape
      have F09 : Fr w w9 (fun _ => False) := (F08.trans F9).mono (by simp)
      have HF09 := hide F09
      have s09 := F09.size
      by_cases hcv : checkV v = 0
      · have e9 : encR [v] = encV v := by unfold encR; rw [h1v, if_pos hcv]; simp [encL]
        rw [e9] at ho9
        rw [e9, hcv]
        have hlv := length_encV v hcv
        have HB9 := hide ho9.bi
        have HC9 := hide ho9.cap.2
        have HO9 := hide (HO8.out.fr F9 (fun _ _ h => h))
        have HLL := hide (by have := HLE.out; omega : (encL (L.take k)).length + (encV v).length ≤ 140737488355328)
        clear ho9 F9 u9' F08 F09 F8 e9 h1v
        go_wp2_with (refine wpList_pushAll rfl (.tmp 71) (.tmp 72) rfl u9 _ rfl HO9.out a9 _ c9 _ rfl HB9.out HC9.out HLL.out ?_; intro v3 w3 ho3 hf3 hr3; have HO3 := hide ho3; have HF3 := hide hf3; have HR3 := hide hr3; clear ho3 hf3 hr3)
        go_roundw
        case rel =>
          refine ⟨k + 1, by omega, by go_num, (HF09.out.trans HF3.out).mono (fun q hq h => h.elim id (fun h => by have := HUP.out _ h; omega)), HTK.out.1 hcv, ?_, HR3.out.le s09 HUP.out⟩
          rw [HTA.out]
          exact HO3.out
        case measure => simp [intOf]; omega
      · have hne : checkL L ≠ 0 := by rw [HTK.out.2 hcv]; exact hcv
        have hnz : ((checkV v : Nat) : Int) ≠ 0 := by omega
        have hnl : ((checkL L : Nat) : Int) ≠ 0 := by omega
        have HE := hide (encode_any (some ⟨g, off, none⟩) c L w9 (HV.out.keep F09) hL)
        clear ho9 F9 u9' F08 F09 F8 h1v
        go_wp2_with fail
        refine HE.out.mono ?_
        rintro e w10 ⟨x10, rfl, _, F10, _⟩
        have HF10 := hide ((HF09.out.trans F10).mono (Y := fun _ => False) (by simp))
        clear F10
        go_wp2
        go_ret
        exact ⟨by simp [hne], HF10.out⟩
    · obtain rfl : k = L.length := by omega
      have hck := HCK.out
      have ho := HO.out
      rw [List.take_length] at hck ho
      have HE := hide (encode_any a c L w7 (HV.out.keep HF.out) hL)
      obtain ⟨a9, c9, rfl⟩ := ho.shape
      have HO9 := hide ho
      clear ho
      go_wp2_with fail
      refine HE.out.mono ?_
      rintro e w10 ⟨x10, rfl, ho10, F10, _⟩
      rw [show encR L = encL L by simp [encR, hck]] at ho10
      rw [hck]
      obtain ⟨a10, c10, rfl⟩ := ho10.shape
      have hcv1 := run_string w10 a10 _ c10 _ ho10.bi.bin
      have hcv2 := run_string w10 a9 _ c9 _ (HO9.out.fr F10 (fun _ _ h => h)).bi.bin
      have HF10 := hide ((HF.out.trans F10).mono (Y := fun _ => False) (by simp))
      clear F10 ho10
      go_wp2
      go_ret
      exact ⟨by simp, HF10.out⟩
end Go.Proofs.Ytnbbgliegfmhpaa
