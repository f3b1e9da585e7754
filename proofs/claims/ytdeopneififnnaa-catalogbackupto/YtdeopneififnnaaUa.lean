/- CatalogBack: the walk. -/
import Derived.Test.YtdeopneififnnaaTa
import Derived.Test.YtdeopneififnnaaQf
namespace Go.Proofs.Ytdeopneififnnaa
open Go.RowKit
set_option maxRecDepth 100000
set_option linter.unusedVariables false
set_option linter.unusedSimpArgs false

set_option maxHeartbeats 16000000 in
theorem back_walk {P : Nat → Prop} {w : World} (id : Int) (nm : ByteArray) (ca : Option Addr) (cn cc : Nat) (C : List Cn) (ka : Option Addr) (kn kc : Nat) (K : List ByteArray) (ix : Bool) (ht : TabIn P w ⟨id, nm, ca, cn, cc, C, ka, kn, kc, K, ix⟩) :
    Calls Try.prog 5 #[(⟨id, nm, ca, cn, cc, C, ka, kn, kc, K, ix⟩ : Tb).agg] w fun e w' => e = .returned (.bool true) ∧ Fr w w' (fun _ => False) := by
  obtain ⟨B0, hB0⟩ : ∃ B0, B0 = w.heap.size := ⟨_, rfl⟩
  obtain ⟨w0, hw0⟩ : ∃ w0, w0 = w.alloc (.cells #[.int .i64 id, .string nm, .slice ca cn cc, .slice ka kn kc, .bool ix] 30) := ⟨_, rfl⟩
  have b0 : BoxT w0 B0 ⟨id, nm, ca, cn, cc, C, ka, kn, kc, K, ix⟩ := by rw [hw0, hB0]; exact heap_alloc_new w _
  have f0 : Fr w w0 (fun _ => False) := by rw [hw0]; exact Fr.alloc w _ _
  have HT0 := hide (ht.fr f0 (fun _ _ h => h))
  have HB := hide b0
  have HF0 := hide f0
  have HAW := hide (awake_any w0)
  have HW := hide hw0
  have HB0 := hide hB0
  have HL0 : Hid (B0 < w0.heap.size) := hide ((Array.getElem?_eq_some_iff.1 b0).1)
  clear ht b0 f0 hw0 hB0
  unfold Tb.agg
  dsimp only
  go_enter Try.func5, Try.ntmps5
  go_wp2_with (rw [← HW.out, ← HB0.out]; clear HW)
  refine HAW.out.mono ?_
  rintro e w1 ⟨rfl, f1⟩
  have HF1 := hide (HF0.out.two f1)
  have HT1 := hide (HT0.out.fr f1 (fun _ _ h => h))
  have HB1 := hide (HB.out.fr f1 (fun h => h))
  obtain ⟨x0, x1, x2, x3, x4⟩ := HB1.out.cells
  dsimp only at x0 x1 x2 x3 x4
  have HRO := hide (row_any _ HT1.out)
  unfold Tb.agg at HRO
  dsimp only at HRO
  clear HAW f1 HF0 HT0 HB
  go_wp2_with fail
  refine HRO.out.mono ?_
  rintro e w2 ⟨v2, rfl, hg⟩
  obtain ⟨av, cv, rfl, hvv, _, hcc⟩ := hg.vals
  have f2 := hg.2.1
  have hC : C.length = cn := HT1.out.cn
  have hK : K.length = kn := HT1.out.kn
  have hcb : cn ≤ 1048576 := HT1.out.cb
  have hkb : kn ≤ 1048576 := HT1.out.kb
  have hlen := rowP_length ⟨id, nm, ca, cn, cc, C, ka, kn, kc, K, ix⟩
  have hRE := read_any _ av _ cv hvv rfl hcc (by rw [hlen]; dsimp only; omega) (by dsimp only; omega) HT1.out.id
  obtain ⟨rn, hrn⟩ : ∃ rn, rn = (rowP ⟨id, nm, ca, cn, cc, C, ka, kn, kc, K, ix⟩).length := ⟨_, rfl⟩
  rw [← hrn] at hRE ⊢
  have HRE := hide hRE
  have HT2 := hide (HT1.out.fr f2 (fun _ _ h => h))
  have HB2 := hide (HB1.out.fr f2 (fun h => h))
  have HF2 := hide (HF1.out.two f2)
  clear HRO hg hvv hcc hlen f2 hC hK hcb hkb hRE hrn HF1 HT1 HB1 x0 x1 x2 x3 x4
  go_wp2_with fail
  refine HRE.out.mono ?_
  rintro e w3 ⟨f3, ⟨hno, rfl⟩ | ⟨hyes, s, hk, rfl, ht3⟩⟩
  · obtain ⟨w4, hw4⟩ : ∃ w4, w4 = w3.alloc (.cells #[.int .i64 0, .string ⟨#[]⟩, .slice none 0 0, .slice none 0 0, .bool false] 30) := ⟨_, rfl⟩
    obtain ⟨B1, hB1⟩ : ∃ B1, B1 = w3.heap.size := ⟨_, rfl⟩
    have f4 : Fr w3 w4 (fun _ => False) := by rw [hw4]; exact Fr.alloc w3 _ _
    have b4 : BoxT w4 B1 zeroT := by rw [hw4, hB1]; exact heap_alloc_new w3 _
    obtain ⟨w5, hw5⟩ : ∃ w5, w5 = ((((w4.setCell ⟨B1, 0, none⟩ (.int .i64 0)).setCell ⟨B1, 1, none⟩ (.string ⟨#[]⟩)).setCell ⟨B1, 2, none⟩ (.slice none 0 0)).setCell ⟨B1, 3, none⟩ (.slice none 0 0)).setCell ⟨B1, 4, none⟩ (.bool false) := ⟨_, rfl⟩
    have b5 : BoxT w5 B1 zeroT := b4.fill w5 hw5
    have f5 := (f4.trans (fr_fill (t' := zeroT) w5 hw5)).mono (Y := fun _ => False) (fun k hk h => by rcases h with h | h; exact h; omega)
    obtain ⟨y0, y1, y2, y3, y4⟩ := b4.cells
    unfold zeroT at y0 y1 y2 y3 y4
    have v0 := b4.frozen 0
    have v1 := b4.frozen 1
    have v2 := b4.frozen 2
    have v3 := b4.frozen 3
    have v4 := b4.frozen 4
    have HZ5 := hide b5
    have HT5 := hide (HT2.out.fr (f3.two f5) (fun _ _ h => h))
    have HB5 := hide (HB2.out.fr (f3.two f5) (fun h => h))
    have HF5 := hide (HF2.out.two (f3.two f5))
    have HCK := hide (check_any _ HT5.out)
    unfold Tb.agg at HCK
    dsimp only at HCK
    obtain ⟨x0, x1, x2, x3, x4⟩ := HB5.out.cells
    dsimp only at x0 x1 x2 x3 x4
    have HW4 := hide hw4
    have HW5 := hide hw5
    have HBB := hide hB1
    have HNO := hide hno
    clear HRE f3 hno hw4 hB1 f4 b4 hw5 b5 f5 HT2 HB2 HF2
    unfold Tb.agg zeroT
    go_wp2_with (first | (rw [← HW4.out, ← HBB.out]; clear HW4) | (rw [← HW5.out]; clear HW5))
    refine HCK.out.mono ?_
    rintro e w6 ⟨rfl, f6⟩
    obtain ⟨q, hq⟩ : ∃ q, q = chkP nm C K := ⟨_, rfl⟩
    have hno := HNO.out
    rw [← hq] at hno ⊢
    have HF6 := hide (HF5.out.two f6)
    clear x0 x1 x2 x3 x4 y0 y1 y2 y3 y4 v0 v1 v2 v3 v4
    obtain ⟨x0, x1, x2, x3, x4⟩ := (HB5.out.fr f6 (fun h => h)).cells
    obtain ⟨y0, y1, y2, y3, y4⟩ := (HZ5.out.fr f6 (fun h => h)).cells
    dsimp only at x0 x1 x2 x3 x4
    unfold zeroT at y0 y1 y2 y3 y4
    have hem : (⟨#[]⟩ : ByteArray).toList = [] := (empty_iff _).2 rfl
    clear HCK f6 hq HNO HT5 HB5 HZ5 HF5
    by_cases hq0 : q = 0
    · subst hq0
      by_cases h1 : id < 1
      · have h1b : decide (id < 1) = true := by simpa using h1
        clear hno
        go_wp2
        go_ret
        exact ⟨rfl, HF6.out⟩
      · have h1b : decide (id < 1) = false := by simpa using h1
        have h6 : id > 16 := by
          by_cases h : id > 16
          · exact h
          · exact absurd ⟨by omega, by omega, rfl⟩ hno
        have h6b : decide (id > 16) = true := by simpa using h6
        clear hno
        go_wp2
        go_ret
        exact ⟨rfl, HF6.out⟩
    · have hqb : (q == 0) = false := by simpa using hq0
      have hqn : (q != 0) = true := by simpa using hq0
      clear hno
      go_wp2
      go_ret
      exact ⟨rfl, HF6.out⟩
  · obtain ⟨i8, n8, a8, m8, c8, C8, b8, k8, d8, K8, x8⟩ := s
    simp only [Tb.key, Prod.mk.injEq] at hk
    obtain ⟨rfl, rfl, rfl, rfl, rfl⟩ := hk
    obtain rfl : cn = m8 := by have h1 := ht3.cn; have h2 := HT2.out.cn; dsimp only at h1 h2; omega
    obtain rfl : kn = k8 := by have h1 := ht3.kn; have h2 := HT2.out.kn; dsimp only at h1 h2; omega
    try dsimp only at hyes
    unfold Tb.agg
    dsimp only
    obtain ⟨B1, hB1⟩ : ∃ B1, B1 = w3.heap.size := ⟨_, rfl⟩
    obtain ⟨w4, hw4⟩ : ∃ w4, w4 = w3.alloc (.cells #[.int .i64 i8, .string n8, .slice a8 cn c8, .slice b8 kn d8, .bool x8] 30) := ⟨_, rfl⟩
    have f4 : Fr w3 w4 (fun _ => False) := by rw [hw4]; exact Fr.alloc w3 _ _
    have b4 : BoxT w4 B1 ⟨i8, n8, a8, cn, c8, C8, b8, kn, d8, K8, x8⟩ := by rw [hw4, hB1]; exact heap_alloc_new w3 _
    have HX4 := hide b4
    have HTX4 := hide (ht3.fr f4 (fun _ _ h => h))
    have HT4 := hide (HT2.out.fr (f3.two f4) (fun _ _ h => h))
    have HB4 := hide (HB2.out.fr (f3.two f4) (fun h => h))
    have HF4 := hide (HF2.out.two (f3.two f4))
    have HCK := hide (check_any _ HT4.out)
    unfold Tb.agg at HCK
    dsimp only at HCK
    rw [hyes.2.2] at HCK
    obtain ⟨x0, x1, x2, x3, x4⟩ := HB4.out.cells
    dsimp only at x0 x1 x2 x3 x4
    have HW4 := hide hw4
    have HBB := hide hB1
    have h1 : ¬ (i8 < 1) := by omega
    have h1b : decide (i8 < 1) = false := by simpa using h1
    have h6 : ¬ (i8 > 16) := by omega
    have h6b : decide (i8 > 16) = false := by simpa using h6
    clear HRE f3 hw4 hB1 f4 b4 ht3 HT2 HB2 HF2 hyes
    go_wp2_with (rw [← HW4.out, ← HBB.out]; clear HW4)
    refine HCK.out.mono ?_
    rintro e w6 ⟨rfl, f6⟩
    have HF6 := hide (HF4.out.two f6)
    have HS6 : Hid (S3 B0 B1 B1 ⟨i8, n8, ca, cn, cc, C8, ka, kn, kc, K8, x8⟩ ⟨i8, n8, a8, cn, c8, C8, b8, kn, d8, K8, x8⟩ ⟨i8, n8, a8, cn, c8, C8, b8, kn, d8, K8, x8⟩ w6) := hide ⟨HB4.out.fr f6 (fun h => h), HX4.out.fr f6 (fun h => h), HX4.out.fr f6 (fun h => h)⟩
    have HTX6 := hide (HTX4.out.fr f6 (fun _ _ h => h))
    have HT6 := hide (HT4.out.fr f6 (fun _ _ h => h))
    clear x0 x1 x2 x3 x4
    obtain ⟨x0, x1, x2, x3, x4⟩ := (HB4.out.fr f6 (fun h => h)).cells
    dsimp only at x0 x1 x2 x3 x4
    clear HCK f6 HB4 HX4 HTX4 HT4 HF4
    go_wp2_with fail
    clear x0 x1 x2 x3 x4
    refine wp_region_K (fun _ => true) (S3 B0 B1 B1 ⟨i8, n8, ca, cn, cc, C8, ka, kn, kc, K8, x8⟩ ⟨i8, n8, a8, cn, c8, C8, b8, kn, d8, K8, x8⟩ ⟨i8, n8, a8, cn, c8, C8, b8, kn, d8, K8, x8⟩) (by kernel_rfl) ?_
    have fd := Fr.drew w6 (fun _ => False)
    have hS := HS6.out.fr fd (fun h => h) (fun h => h) (fun h => h)
    refine wpAnyK_takeTo 0 (some 33) (.int .i64 0) [1, 2, 3, 4, 5, 6, 7, 8, 9] rfl rfl (by kernel_rfl) (by kernel_rfl) (by kernel_rfl) (by kernel_rfl) (fun _ _ _ h => h) hS (Or.inl ⟨rfl, fun w1 hw1 => by obtain ⟨⟨x0, x1, x2, x3, x4⟩, ⟨y0, y1, y2, y3, y4⟩, _⟩ := S3.cells hw1; dsimp only at x0 x1 x2 x3 x4 y0 y1 y2 y3 y4; go_simp⟩) ?_
    simp only [Act.put, List.setIfInBounds_toArray, List.set_cons_zero, List.set_cons_succ]
    refine wpAnyK_takeTo 1 (some 34) (.bool true) [2, 3, 4, 5, 6, 7, 8, 9] rfl rfl (by kernel_rfl) (by kernel_rfl) (by kernel_rfl) (by kernel_rfl) (fun _ _ _ h => h) hS (Or.inl ⟨rfl, fun w1 hw1 => by obtain ⟨⟨x0, x1, x2, x3, x4⟩, ⟨y0, y1, y2, y3, y4⟩, _⟩ := S3.cells hw1; dsimp only at x0 x1 x2 x3 x4 y0 y1 y2 y3 y4; go_simp⟩) ?_
    simp only [Act.put, List.setIfInBounds_toArray, List.set_cons_zero, List.set_cons_succ]
    refine wpAnyK_takeTo 2 (some 35) (.bool true) [3, 4, 5, 6, 7, 8, 9] rfl rfl (by kernel_rfl) (by kernel_rfl) (by kernel_rfl) (by kernel_rfl) (fun _ _ _ h => h) hS (Or.inl ⟨rfl, fun w1 hw1 => by obtain ⟨⟨x0, x1, x2, x3, x4⟩, ⟨y0, y1, y2, y3, y4⟩, _⟩ := S3.cells hw1; dsimp only at x0 x1 x2 x3 x4 y0 y1 y2 y3 y4; go_simp⟩) ?_
    simp only [Act.put, List.setIfInBounds_toArray, List.set_cons_zero, List.set_cons_succ]
    refine wpAnyK_takeTo 3 (some 36) (.agg #[.int .i64 i8, .string n8, .slice a8 cn c8, .slice b8 kn d8, .bool x8]) [4, 6, 7, 8, 9] rfl rfl (by kernel_rfl) (by kernel_rfl) (by kernel_rfl) (by kernel_rfl) (fun _ _ _ h => h) hS (Or.inl ⟨rfl, fun w1 hw1 => by obtain ⟨⟨x0, x1, x2, x3, x4⟩, ⟨y0, y1, y2, y3, y4⟩, _⟩ := S3.cells hw1; dsimp only at x0 x1 x2 x3 x4 y0 y1 y2 y3 y4; go_simp⟩) ?_
    simp only [Act.put, List.setIfInBounds_toArray, List.set_cons_zero, List.set_cons_succ]
    refine wpAnyK_takeTo 5 (some 38) (.agg #[.int .i64 i8, .string n8, .slice ca cn cc, .slice ka kn kc, .bool x8]) [6, 7, 8, 9] rfl rfl (by kernel_rfl) (by kernel_rfl) (by kernel_rfl) (by kernel_rfl) (fun _ _ _ h => h) hS (Or.inl ⟨rfl, fun w1 hw1 => by obtain ⟨⟨x0, x1, x2, x3, x4⟩, ⟨y0, y1, y2, y3, y4⟩, _⟩ := S3.cells hw1; dsimp only at x0 x1 x2 x3 x4 y0 y1 y2 y3 y4; go_simp⟩) ?_
    simp only [Act.put, List.setIfInBounds_toArray, List.set_cons_zero, List.set_cons_succ]
    refine wpAnyK_one (i := 4) (by kernel_rfl) rfl rfl ?_
    refine wp_call_to (some 37) rfl 16 #[.agg #[.int .i64 i8, .string n8, .slice a8 cn c8, .slice b8 kn d8, .bool x8]] (by go_simp) (plain_any ⟨i8, n8, a8, cn, c8, C8, b8, kn, d8, K8, x8⟩ w6.drew) ?_
    rintro e V1 ⟨rfl, g1⟩
    replace hS := hS.fr g1 (fun h => h) (fun h => h) (fun h => h)
    refine ⟨_, rfl, fun _ => hS, ?_⟩
    unfold Tb.agg
    simp only [Act.put, List.setIfInBounds_toArray, List.set_cons_zero, List.set_cons_succ]
    refine wpAnyK_one (i := 6) (by kernel_rfl) rfl rfl ?_
    refine wp_call_to (some 39) rfl 16 #[.agg #[.int .i64 i8, .string n8, .slice ca cn cc, .slice ka kn kc, .bool x8]] (by go_simp) (plain_any ⟨i8, n8, ca, cn, cc, C8, ka, kn, kc, K8, x8⟩ V1) ?_
    rintro e V2 ⟨rfl, g2⟩
    replace hS := hS.fr g2 (fun h => h) (fun h => h) (fun h => h)
    refine ⟨_, rfl, fun _ => hS, ?_⟩
    unfold Tb.agg
    simp only [Act.put, List.setIfInBounds_toArray, List.set_cons_zero, List.set_cons_succ]
    have g3 := (fd.two g1).two g2
    refine wpAnyK_one (i := 7) (by kernel_rfl) rfl rfl ?_
    refine wp_call_to (some 40) rfl 15 #[.agg #[.int .i64 i8, .string n8, .slice a8 cn c8, .slice b8 kn d8, .bool x8], .agg #[.int .i64 i8, .string n8, .slice ca cn cc, .slice ka kn kc, .bool x8]] (by go_simp) (same_yes i8 n8 x8 C8 K8 a8 ca b8 ka cn c8 cc kn d8 kc (HTX6.out.fr g3 (fun _ _ h => h)) (HT6.out.fr g3 (fun _ _ h => h))) ?_
    rintro e V3 ⟨rfl, g4⟩
    replace hS := hS.fr g4 (fun h => h) (fun h => h) (fun h => h)
    refine ⟨_, rfl, fun _ => hS, ?_⟩
    simp only [Act.put, List.setIfInBounds_toArray, List.set_cons_zero, List.set_cons_succ]
    have HFE := hide (HF6.out.two (g3.two g4))
    refine wpAnyK_takeTo 8 (some 41) (.bool true) [9] rfl rfl (by kernel_rfl) (by kernel_rfl) (by kernel_rfl) (by kernel_rfl) (fun _ _ _ h => h) hS (Or.inl ⟨rfl, fun w1 hw1 => by obtain ⟨⟨x0, x1, x2, x3, x4⟩, ⟨y0, y1, y2, y3, y4⟩, _⟩ := S3.cells hw1; dsimp only at x0 x1 x2 x3 x4 y0 y1 y2 y3 y4; go_simp⟩) ?_
    simp only [Act.put, List.setIfInBounds_toArray, List.set_cons_zero, List.set_cons_succ]
    refine wpAnyK_takeTo 9 (some 2) (.bool true) [] rfl rfl (by kernel_rfl) (by kernel_rfl) (by kernel_rfl) (by kernel_rfl) (fun _ _ _ h => h) hS (Or.inl ⟨rfl, fun w1 hw1 => by obtain ⟨⟨x0, x1, x2, x3, x4⟩, ⟨y0, y1, y2, y3, y4⟩, _⟩ := S3.cells hw1; dsimp only at x0 x1 x2 x3 x4 y0 y1 y2 y3 y4; go_simp⟩) ?_
    simp only [Act.put, List.setIfInBounds_toArray, List.set_cons_zero, List.set_cons_succ]
    refine wpAnyK_done (by kernel_rfl) ?_ _
    go_wp2
    go_ret
    exact ⟨rfl, HFE.out⟩
end Go.Proofs.Ytdeopneififnnaa
