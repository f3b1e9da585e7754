/- Written and read again: the walk of CodecBack. -/
import Derived.Test.YtnbbgliegfmhpaaV
namespace Go.Proofs.Ytnbbgliegfmhpaa
open Go.RowKit

theorem length_encR (L : List Val) : (encR L).length ≤ 131 * L.length := by
  unfold encR
  split
  · rename_i h; exact length_encL L h
  · simp
theorem decAt_le (l : List UInt8) : decAt l ≤ l.length := by
  unfold decAt
  split
  · omega
  · omega
theorem decOut_bad (l : List UInt8) (h : decCode l ≠ 0) : decOut l = [] := by
  unfold decCode at h
  unfold decOut
  split at h
  · simp at h
  · rfl
theorem length_decL : ∀ (n : Nat) (l : List UInt8) (out M : List Val), l.length ≤ n → decL l out = .ok M → M.length ≤ out.length + l.length := by
  intro n
  induction n with
  | zero =>
    intro l out M hl h
    have : l = [] := List.eq_nil_of_length_eq_zero (by omega)
    subst this
    rw [decL_nil] at h
    cases h
    simp
  | succ n ih =>
    intro l out M hl h
    by_cases h0 : l = []
    · subst h0
      rw [decL_nil] at h
      cases h
      simp
    · cases hR : decV l with
      | error e => rw [decL_err l out e hR h0] at h; cases h
      | ok vr =>
        obtain ⟨v, r⟩ := vr
        rw [decL_step l out v r hR] at h
        have hlt := decV_lt l v r hR
        have := ih r _ M (by omega) h
        simp at this
        omega
theorem length_decOut (l : List UInt8) : (decOut l).length ≤ l.length := by
  unfold decOut
  split
  · rename_i L h
    have := length_decL l.length l [] L (Nat.le_refl _) h
    simpa using this
  · simp
theorem readT_err : ∀ (q out : List UInt8) (e : Nat × Nat), readT q out = .error e → e.1 ≠ 0 ∧ e.2 ≤ q.length
  | [], _, e, h => by simp [readT] at h; subst h; simp
  | [b], out, e, h => by
    by_cases hb : b = 0
    · subst hb; rw [readT_z] at h; cases h; simp
    · rw [readT_nz _ _ _ hb] at h
      simp [readT] at h; subst h; simp
  | b :: x :: q, out, e, h => by
    by_cases hb : b = 0
    · subst hb
      by_cases hx : x = 0
      · subst hx; rw [readT_zz] at h; cases h
      · by_cases hf : x = 255
        · subst hf; rw [readT_zf] at h
          have := readT_err q _ e h
          exact ⟨this.1, by simp; omega⟩
        · rw [readT_zx _ _ _ hx hf] at h; cases h; simp
    · rw [readT_nz _ _ _ hb] at h
      have := readT_err (x :: q) _ e h
      exact ⟨this.1, by simp at this ⊢; omega⟩
theorem decV_fault (l : List UInt8) (e : Nat × Nat) (h : decV l = .error e) : e.1 ≠ 0 ∧ e.2 ≤ l.length := by
  cases l with
  | nil => rw [decV_nil] at h; cases h; simp
  | cons k q =>
    by_cases hk1 : k = 1
    · subst hk1
      by_cases hq : q.length < 8
      · rw [decV_short q hq] at h; cases h; simp
      · rw [decV_num q hq] at h; cases h
    · by_cases hk2 : k = 2
      · subst hk2
        cases hR : readT q [] with
        | error e' =>
          rw [decV_terr q e' hR] at h
          cases h
          have := readT_err q [] e hR
          exact ⟨this.1, by simp; omega⟩
        | ok tr =>
          obtain ⟨t, r'⟩ := tr
          by_cases ht : t.length > 64
          · rw [decV_long q t r' hR ht] at h; cases h; simp
          · rw [decV_text q t r' hR ht] at h; cases h
      · rw [decV_kind k q hk1 hk2] at h; cases h; simp
theorem decL_fault : ∀ (n : Nat) (l : List UInt8) (out : List Val) (e : Nat × Nat), l.length ≤ n → decL l out = .error e → e.1 ≠ 0 ∧ e.2 ≤ l.length := by
  intro n
  induction n with
  | zero =>
    intro l out e hl h
    have : l = [] := List.eq_nil_of_length_eq_zero (by omega)
    subst this
    rw [decL_nil] at h
    cases h
  | succ n ih =>
    intro l out e hl h
    by_cases h0 : l = []
    · subst h0
      rw [decL_nil] at h
      cases h
    · cases hR : decV l with
      | error e' =>
        rw [decL_err l out e' hR h0] at h
        cases h
        exact decV_fault l e hR
      | ok vr =>
        obtain ⟨v, r⟩ := vr
        rw [decL_step l out v r hR] at h
        have hlt := decV_lt l v r hR
        have := ih r _ e (by omega) h
        exact ⟨this.1, by omega⟩
theorem decOut_good (l : List UInt8) (h : decCode l = 0) : checkL (decOut l) = 0 ∧ encL (decOut l) = l ∧ Wf (decOut l) := by
  unfold decCode at h
  unfold decOut
  cases hR : decL l [] with
  | ok L => exact enc_dec l L hR
  | error e =>
    rw [hR] at h
    exact absurd h (decL_fault l.length l [] e (Nat.le_refl _) hR).1

set_option maxRecDepth 100000 in
set_option maxHeartbeats 4000000 in
theorem back_walk (a : Option Addr) (c : Nat) (L : List Val) (hw : Wf L) (b : Option Addr) (n cb : Nat) (l : List UInt8) (w : World) (hv : Vals w a L) (hL : L.length ≤ 1048576) (hb : BI w b n l) (hn : n ≤ 1048576) (hnc : n ≤ cb) :
    Calls Try.prog 7 #[.slice a L.length c, .slice b n cb] w fun e w' => e = .returned (.bool true) ∧ Fr w w' (fun _ => False) := by
  have HV := hide hv
  have HB := hide hb
  have HW := hide hw
  have hll := hb.1
  clear hv hb hw
  subst hll
  go_enter Try.func7, Try.ntmps7
  go_wp2_with fail
  refine (awake_any w).mono ?_
  rintro e w1 ⟨rfl, F1⟩
  have HF1 := hide F1
  have HE1 := hide (encode_any a c L w1 (HV.out.keep F1) hL)
  clear F1
  go_wp2_with fail
  refine HE1.out.mono ?_
  clear HE1
  rintro e w2 ⟨x2, rfl, ho2, F2, u2⟩
  obtain ⟨a2, c2, rfl⟩ := ho2.shape
  have hlr := length_encR L
  have HF2 := hide ((HF1.out.trans F2).mono (Y := fun _ => False) (by simp))
  have HD2 := hide (decode_any a2 _ c2 _ w2 ho2.bi (by omega) ho2.cap.1)
  clear ho2 F2 u2 HF1
  go_wp2_with fail
  refine HD2.out.mono ?_
  clear HD2
  rintro e w3 ⟨x3, rfl, ho3, F3, u3⟩
  obtain ⟨a3, c3, rfl⟩ := ho3.shape
  have HF3 := hide ((HF2.out.trans F3).mono (Y := fun _ => False) (by simp))
  have HO3 := hide ho3
  clear F3 ho3 u3 HF2
  by_cases hcl : checkL L = 0
  · have er : encR L = encL L := by rw [encR, if_pos hcl]
    obtain ⟨d1, d2, d3⟩ := decOut_enc L HW.out hcl
    have HO3' := HO3.out
    rw [er, d1] at HO3'
    rw [er, d1, d2, d3, hcl]
    have hA3 := (HO3'.keep (((Fr.alloc w3 (.cells #[.int .i64 0, .int .i64 0] 43) (fun _ => False))).mono (by simp))).vals
    have HSA := hide (same_any a3 a c3 c L _ hA3 (HV.out.keep (HF3.out.trans1 (.cells #[.int .i64 0, .int .i64 0] 43))) (by omega))
    clear HO3 HO3' hA3 d1 d2 d3 er
    go_wp2_with (go_at_call 21; refine HSA.out.mono ?_; rintro e w4 ⟨rfl, F4⟩; have HF4 := hide F4; clear F4)
    have HF04 := hide (((HF3.out.trans1 (.cells #[.int .i64 0, .int .i64 0] 43)).trans HF4.out).mono (Y := fun _ => False) (by simp))
    have HD4 := hide (decode_any b _ cb l w4 (HB.out.fr HF04.out (fun _ _ _ _ h => h)) (by omega) hnc)
    clear HSA HF4 HF3
    refine HD4.out.mono ?_
    clear HD4
    rintro e w5 ⟨x5, rfl, ho5, F5, u5⟩
    obtain ⟨a5, c5, rfl⟩ := ho5.shape
    have HF5 := hide ((HF04.out.trans F5).mono (Y := fun _ => False) (by simp))
    have HB5 := hide (HB.out.fr HF5.out (fun _ _ _ _ h => h))
    have hat := decAt_le l
    have hlo := length_decOut l
    by_cases hdc : decCode l = 0
    · obtain ⟨g1, g2, g3⟩ := decOut_good l hdc
      have HO5 := hide ho5
      have HE6 := hide (encode_any a5 c5 (decOut l) (w5.alloc (.cells #[.int .i64 0, .int .i64 (decAt l)] 43)) ((ho5.keep ((Fr.alloc w5 (.cells #[.int .i64 0, .int .i64 (decAt l)] 43) (fun _ => False)).mono (by simp))).vals) (by omega))
      have HF6 := hide (HF5.out.trans1 (.cells #[.int .i64 0, .int .i64 (decAt l)] 43))
      rw [hdc]
      clear F5 ho5 u5 HF04 HF5 hdc
      go_wp2_with fail
      refine HE6.out.mono ?_
      clear HE6
      rintro e w7 ⟨x7, rfl, ho7, F7, u7⟩
      rw [show encR (decOut l) = l by rw [encR, if_pos g1, g2]] at ho7
      rw [g1]
      obtain ⟨a7, c7, rfl⟩ := ho7.shape
      have hcv1 := run_string w7 a7 _ c7 _ ho7.bi.bin
      have HF7 := hide ((HF6.out.trans F7).mono (Y := fun _ => False) (by simp))
      have hcv2 := run_string w7 b _ cb l (HB.out.fr HF7.out (fun _ _ _ _ h => h)).bin
      clear F7 ho7 u7 HF6 g1 g2 g3
      go_wp2
      go_ret
      exact ⟨by simp, HF7.out⟩
    · have hdo := decOut_bad l hdc
      have hd2 : ¬ ((decCode l : Nat) : Int) = 0 := by omega
      have HF6 := hide (HF5.out.trans1 (.cells #[.int .i64 (decCode l), .int .i64 (decAt l)] 43))
      rw [hdo]
      clear F5 ho5 u5 HF04 HF5 hdc
      go_wp2
      go_ret
      exact ⟨by simp, HF6.out⟩
  · have hcl2 : ¬ ((checkL L : Nat) : Int) = 0 := by omega
    go_wp2_with fail
    have HF04 := hide (HF3.out.trans1 (.cells #[.int .i64 (decCode (encR L)), .int .i64 (decAt (encR L))] 43))
    have HD4 := hide (decode_any b _ cb l (w3.alloc (.cells #[.int .i64 (decCode (encR L)), .int .i64 (decAt (encR L))] 43)) (HB.out.fr HF04.out (fun _ _ _ _ h => h)) (by omega) hnc)
    clear HO3 HF3
    refine HD4.out.mono ?_
    clear HD4
    rintro e w5 ⟨x5, rfl, ho5, F5, u5⟩
    obtain ⟨a5, c5, rfl⟩ := ho5.shape
    have HF5 := hide ((HF04.out.trans F5).mono (Y := fun _ => False) (by simp))
    have HB5 := hide (HB.out.fr HF5.out (fun _ _ _ _ h => h))
    have hat := decAt_le l
    have hlo := length_decOut l
    by_cases hdc : decCode l = 0
    · obtain ⟨g1, g2, g3⟩ := decOut_good l hdc
      have HO5 := hide ho5
      have HE6 := hide (encode_any a5 c5 (decOut l) (w5.alloc (.cells #[.int .i64 0, .int .i64 (decAt l)] 43)) ((ho5.keep ((Fr.alloc w5 (.cells #[.int .i64 0, .int .i64 (decAt l)] 43) (fun _ => False)).mono (by simp))).vals) (by omega))
      have HF6 := hide (HF5.out.trans1 (.cells #[.int .i64 0, .int .i64 (decAt l)] 43))
      rw [hdc]
      clear F5 ho5 u5 HF04 HF5 hdc
      go_wp2_with fail
      refine HE6.out.mono ?_
      clear HE6
      rintro e w7 ⟨x7, rfl, ho7, F7, u7⟩
      rw [show encR (decOut l) = l by rw [encR, if_pos g1, g2]] at ho7
      rw [g1]
      obtain ⟨a7, c7, rfl⟩ := ho7.shape
      have hcv1 := run_string w7 a7 _ c7 _ ho7.bi.bin
      have HF7 := hide ((HF6.out.trans F7).mono (Y := fun _ => False) (by simp))
      have hcv2 := run_string w7 b _ cb l (HB.out.fr HF7.out (fun _ _ _ _ h => h)).bin
      clear F7 ho7 u7 HF6 g1 g2 g3
      go_wp2
      go_ret
      exact ⟨by simp, HF7.out⟩
    · have hdo := decOut_bad l hdc
      have hd2 : ¬ ((decCode l : Nat) : Int) = 0 := by omega
      have HF6 := hide (HF5.out.trans1 (.cells #[.int .i64 (decCode l), .int .i64 (decAt l)] 43))
      rw [hdo]
      clear F5 ho5 u5 HF04 HF5 hdc
      go_wp2
      go_ret
      exact ⟨by simp, HF6.out⟩
end Go.Proofs.Ytnbbgliegfmhpaa
