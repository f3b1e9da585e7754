/- awake. -/
import Derived.Test.YtaonhgabnbmcfaaZf
namespace Go.Proofs.Ytaonhgabnbmcfaa
open Go.RowKit
set_option maxRecDepth 100000
set_option linter.unusedVariables false
set_option linter.unusedSimpArgs false

theorem new_ts {w : World} (order : Int) : Calls Try.prog 8 #[.int .i64 order] w fun e w' => Fr w w' (fun _ => False) ∧ (((order < 2 ∨ 64 < order) ∧ e = .returned (.tuple #[.pointer none, .int .i64 1])) ∨ ∃ (o tb : Nat) (d : Kd), order = (o : Int) ∧ 2 ≤ o ∧ o ≤ 64 ∧ e = .returned (.tuple #[.pointer (some ⟨tb, 0, none⟩), .int .i64 0]) ∧ TS w.heap.size o 0 w' tb d ∧ d.F = []) := by
  refine (new_any order w).mono ?_
  rintro e w' ⟨hf, h | ⟨o, tb, d, h1, rfl, h2, h3, h4, h5⟩⟩
  · exact ⟨hf, .inl h⟩
  · exact ⟨hf, .inr ⟨o, tb, d, h1, h2.lo2, h2.hi64, rfl, ⟨0, by rw [h3]; exact h2, h4, h5⟩, h3⟩⟩
theorem ab_ne : (⟨#[97]⟩ : ByteArray) ≠ ⟨#[98]⟩ := by intro h; injection h with h; simp at h
theorem ab_lt : kc ⟨#[97]⟩ ⟨#[98]⟩ < 0 := by decide
set_option maxHeartbeats 4000000 in
theorem awake_any (w : World) : Calls Try.prog 7 #[] w fun e w' => e = .returned (.bool true) ∧ Fr w w' (fun _ => False) := by
  obtain ⟨base, hb⟩ : ∃ base, base = w.heap.size := ⟨_, rfl⟩
  have HB := hide hb
  have HN := hide (new_ts (w := w) 2)
  rw [← hb] at HN
  clear hb
  go_enter Try.func7, Try.ntmps7
  go_wp2_with fail
  refine HN.out.mono ?_
  rintro en w1 ⟨f1, ⟨h1, _⟩ | ⟨o, tb, d, h1, _, _, rfl, ht, hF⟩⟩
  · omega
  have s1 := f1.size
  have HP1 := hide (ht.put (by rw [HB.out]; omega) ⟨#[98]⟩ 2 (by rw [hF]; simp))
  have HT := hide ht
  have HF := hide hF
  have HF1 := hide f1
  have HS1 := hide s1
  clear HN h1 ht hF f1 s1
  go_wp2_with fail
  refine HP1.out.mono ?_
  rintro en w2 ⟨b2, d2, rfl, hb2, ht2, hm2, hl2, hX2, f2⟩
  have hb2 : b2 = false := by
    cases b2 with
    | false => rfl
    | true => obtain ⟨u, hu⟩ := hb2.1 rfl; rw [HF.out] at hu; simp at hu
  subst hb2
  have hm2' : ∀ x, x ∈ d2.F ↔ x = ⟨⟨#[98]⟩, 2⟩ := fun x => by rw [hm2 x, HF.out]; simp
  have hl2' : d2.F.length ≤ 1 := by rw [HF.out] at hl2; exact hl2
  have HF2 : Hid (Fr w w2 (fun k => base ≤ k)) := hide ((HF1.out.mono (fun _ _ h => h.elim)).two (f2.mono (fun k _ h => HT.out.base k h)))
  have HP2 := hide (ht2.put (by have := HF2.out.size; rw [HB.out]; exact this) ⟨#[97]⟩ 1 (by omega))
  have HT2 := hide ht2
  have HM2 := hide hm2'
  have HL2 := hide hl2'
  clear HP1 ht2 hm2 hm2' hl2 hl2' hX2 f2 HF1 HS1 HT HF
  go_wp2_with fail
  refine HP2.out.mono ?_
  rintro en w3 ⟨b3, d3, rfl, hb3, ht3, hm3, hl3, hX3, f3⟩
  have hb3 : b3 = false := by
    cases b3 with
    | false => rfl
    | true =>
      obtain ⟨u, hu⟩ := hb3.1 rfl
      rw [HM2.out] at hu
      injection hu with h _
      exact absurd h ab_ne
  subst hb3
  have hm3' : ∀ x, x ∈ d3.F ↔ x = ⟨⟨#[98]⟩, 2⟩ ∨ x = ⟨⟨#[97]⟩, 1⟩ := fun x => by
    rw [hm3 x, HM2.out]
    constructor
    · rintro (h | h)
      · exact .inl h.1
      · exact .inr h
    · rintro (rfl | h)
      · exact .inl ⟨rfl, fun h => ab_ne h.symm⟩
      · exact .inr h
  have hl3' : d3.F.length ≤ 2 := by have := HL2.out; omega
  have HF3 : Hid (Fr w w3 (fun k => base ≤ k)) := hide (HF2.out.two (f3.mono (fun k _ h => HT2.out.base k h)))
  have HP3 := hide (ht3.put (by have := HF3.out.size; rw [HB.out]; exact this) ⟨#[98]⟩ 3 (by omega))
  have HT3 := hide ht3
  have HM3 := hide hm3'
  have HL3 := hide hl3'
  clear HP2 ht3 hm3 hm3' hl3 hl3' hX3 f3 HT2 HF2 HM2 HL2
  go_wp2_with fail
  refine HP3.out.mono ?_
  rintro en w4 ⟨b4, d4, rfl, hb4, ht4, hm4, hl4, hX4, f4⟩
  have hb4 : b4 = true := hb4.2 ⟨2, (HM3.out _).2 (.inl rfl)⟩
  subst hb4
  have hm4' : ∀ x, x ∈ d4.F ↔ x ∈ [(⟨⟨#[97]⟩, 1⟩ : It), ⟨⟨#[98]⟩, 3⟩] := fun x => by
    rw [hm4 x, HM3.out]
    constructor
    · rintro (⟨h | h, hk⟩ | h)
      · exact absurd (by rw [h]) hk
      · rw [h]; simp
      · rw [h]; simp
    · intro h
      rcases List.mem_cons.1 h with h | h
      · exact .inl ⟨.inr h, by rw [h]; exact ab_ne⟩
      · exact .inr (by simpa using h)
  have hF4 : d4.F = [(⟨⟨#[97]⟩, 1⟩ : It), ⟨⟨#[98]⟩, 3⟩] := Srt.ext ht4.srt (Srt.mkc (fun y hy => by simp at hy; rw [hy]; exact ab_lt) (Srt.mkc (fun y hy => by simp at hy) List.Pairwise.nil)) hm4'
  have HF4 : Hid (Fr w w4 (fun k => base ≤ k)) := hide (HF3.out.two (f4.mono (fun k _ h => HT3.out.base k h)))
  have HLE4 : Hid (Calls Try.prog 11 #[.pointer (some ⟨tb, 0, none⟩)] w4 fun e w' => e = .returned (.int .i64 2) ∧ w' = w4) := hide (by have h := ht4.len; rw [hF4] at h; exact h)
  have HT4 := hide ht4
  have HF4' := hide hF4
  clear HP3 ht4 hm4 hm4' hl4 hX4 f4 hF4 HT3 HF3 HM3 HL3 hb4
  go_wp2_with fail
  refine HLE4.out.mono ?_
  rintro en w4x ⟨rfl, hww⟩
  rw [hww]
  clear hww HLE4
  have HG := hide (HT4.out.get ⟨#[98]⟩)
  go_wp2_with fail
  refine HG.out.mono ?_
  rintro en w5 ⟨f5, ⟨u, hu, rfl⟩ | ⟨hno, _⟩⟩
  rotate_left
  · exact absurd rfl (hno ⟨⟨#[98]⟩, 3⟩ (by rw [HF4'.out]; simp))
  have hu3 : u = 3 := by
    rw [HF4'.out] at hu
    rcases List.mem_cons.1 hu with h | h
    · injection h with h _; exact absurd h.symm ab_ne
    · simpa using h
  subst hu3
  have HT5 := hide (HT4.out.fr f5 (fun _ _ h => h))
  have HF5 : Hid (Fr w w5 (fun k => base ≤ k)) := hide (HF4.out.two (f5.mono (fun _ _ h => h.elim)))
  have HLI := hide (HT5.out.listed ⟨#[]⟩ ⟨#[]⟩ (by omega) (by omega) (by rw [HF4'.out]; simp))
  clear HG hu f5 HT4 HF4
  go_wp2_with fail
  refine HLI.out.mono ?_
  rintro en w6 ⟨v6, rfl, ht6, hp6, hv6, f6⟩
  rw [rng_all, HF4'.out] at hp6
  obtain ⟨a6, c6, rfl, hi6⟩ := hp6
  obtain ⟨g6, rfl, k1, k2⟩ := hi6 0 _ rfl
  have k3 := (hi6 1 _ rfl)
  have HF6 : Hid (Fr w w6 (fun k => base ≤ k)) := hide (HF5.out.two (f6.mono (fun k _ h => HT5.out.base k (.inl h))))
  have hbw : base ≤ w6.heap.size := by have := HF6.out.size; rw [HB.out]; exact this
  have HC1 := hide (ht6.cut hbw ⟨#[97]⟩ (by rw [show d4.old.F = d4.F from rfl, HF4'.out]; simp))
  have HT6 := hide ht6
  simp only [Nat.zero_mul, Nat.zero_add] at k1
  rw [show [(⟨⟨#[97]⟩, 1⟩ : It), ⟨⟨#[98]⟩, 3⟩].length = 2 from rfl]
  clear HLI ht6 hv6 f6 HT5 HF5 hbw k2 k3 hi6
  go_wp2_with fail
  refine HC1.out.mono ?_
  rintro en w7 ⟨b7, d7, rfl, hb7, ht7, hm7, hl7, hX7, f7⟩
  have hb7 : b7 = true := hb7.2 ⟨1, by rw [show d4.old.F = d4.F from rfl, HF4'.out]; simp⟩
  subst hb7
  have hm7' : ∀ x, x ∈ d7.F ↔ x ∈ [(⟨⟨#[98]⟩, 3⟩ : It)] := fun x => by
    rw [hm7 x, show d4.old.F = d4.F from rfl, HF4'.out]
    constructor
    · rintro ⟨h, hk⟩
      rcases List.mem_cons.1 h with h | h
      · exact absurd (by rw [h]) hk
      · exact h
    · intro h
      have h : x = ⟨⟨#[98]⟩, 3⟩ := by simpa using h
      rw [h]
      exact ⟨by simp, fun h => ab_ne h.symm⟩
  have hF7 : d7.F = [(⟨⟨#[98]⟩, 3⟩ : It)] := Srt.ext ht7.srt (Srt.mkc (fun y hy => by simp at hy) List.Pairwise.nil) hm7'
  have HF7 : Hid (Fr w w7 (fun k => base ≤ k)) := hide (HF6.out.two (f7.mono (fun k _ h => HT6.out.base k h)))
  have hbw : base ≤ w7.heap.size := by have := HF7.out.size; rw [HB.out]; exact this
  have HC2 := hide (ht7.cut hbw ⟨#[97]⟩ (by rw [hF7]; simp))
  have HT7 := hide ht7
  have HFF7 := hide hF7
  clear HC1 ht7 hm7 hm7' hl7 hX7 f7 HT6 HF6 hbw hF7 k1 hb7
  go_wp2_with fail
  refine HC2.out.mono ?_
  rintro en w8 ⟨b8, d8, rfl, hb8, ht8, hm8, hl8, hX8, f8⟩
  have hb8 : b8 = false := by
    cases b8 with
    | false => rfl
    | true =>
      obtain ⟨u, hu⟩ := hb8.1 rfl
      rw [HFF7.out] at hu
      simp at hu
  subst hb8
  have hF8 : d8.F = [(⟨⟨#[98]⟩, 3⟩ : It)] := Srt.ext ht8.srt (Srt.mkc (fun y hy => by simp at hy) List.Pairwise.nil) (fun x => by
    rw [hm8 x, HFF7.out]
    constructor
    · exact fun h => h.1
    · intro h
      have h2 : x = ⟨⟨#[98]⟩, 3⟩ := by simpa using h
      exact ⟨h, by rw [h2]; exact fun h => ab_ne h.symm⟩)
  have HF8 : Hid (Fr w w8 (fun k => base ≤ k)) := hide (HF7.out.two (f8.mono (fun k _ h => HT7.out.base k h)))
  have HLE8 : Hid (Calls Try.prog 11 #[.pointer (some ⟨tb, 0, none⟩)] w8 fun e w' => e = .returned (.int .i64 1) ∧ w' = w8) := hide (by have h := ht8.len; rw [hF8] at h; exact h)
  clear HC2 ht8 hm8 hl8 hX8 f8 HT7 HF7 hF8 HFF7
  go_wp2_with fail
  refine HLE8.out.mono ?_
  rintro en w8x ⟨rfl, hww⟩
  rw [hww]
  clear hww HLE8
  go_wp2
  go_ret
  exact ⟨rfl, HF8.out.mono (fun k hk h => by have := HB.out; omega)⟩
end Go.Proofs.Ytaonhgabnbmcfaa
