/- sweep, whatever passes and tells. -/
import Derived.Test.YtlapifncplbcnaaGreatMb
namespace Go.Proofs.YtlapifncplbcnaaGreat
open Go.RowKit Go.Sort Go.Shelf
set_option maxRecDepth 100000
set_option linter.unusedVariables false
set_option linter.unusedSimpArgs false

set_option maxHeartbeats 8000000 in
theorem sweep_any {w : World} {g off c : Nat} {S : List St} (hL : Row elS w (some ⟨g, off, none⟩) S) (hne : S ≠ []) (hl : S.length ≤ 549755813888) (hr : ∀ s ∈ S, s.lo < s.hi) (gp gt : Nat) (cp ct : Array Value)
    (egp : ∀ args w, (callFunc gp args).run Tryz.prog w = .ok (.enter gp args) w) (egt : ∀ args w, (callFunc gt args).run Tryz.prog w = .ok (.enter gt args) w) (Y : Nat → Prop) (hY : ∀ k, Y k → k < w.heap.size ∧ k ≠ g)
    (I M : List Ed → (Nat → Prop) → Nat → World → Prop)
    (hlt : ∀ E X i W, I E X i W → ∀ k, X k → k < W.heap.size)
    (hstart : ∀ E W, Edg S E → Fr w W (fun _ => False) → ∃ X, I E X 0 W ∧ ∀ k, X k → Y k)
    (hI : ∀ E X i W W', I E X i W → Fr W W' (fun _ => False) → I E X i W') (hM : ∀ E X i W W', M E X i W → Fr W W' (fun _ => False) → M E X i W')
    (hpass : ∀ E X i e s W, Edg S E → E[i]? = some e → (∃ j : Nat, e.of = (j : Int) ∧ S[j]? = some s) → I E X i W → Calls Tryz.prog gp (#[.agg #[.int .i64 s.lo, .int .i64 s.hi, .slice s.p s.row.length s.c, .int .i64 s.n], .int .i64 e.b] ++ cp) W fun x W' => x = .returned (.tuple #[]) ∧ ∃ X', M E X' i W' ∧ Fr W W' X ∧ ∀ k, X' k → X k ∨ W.heap.size ≤ k)
    (hskip : ∀ E X i e W, Edg S E → E[i]? = some e → (i + 1 = E.length ∨ ∃ y, E[i + 1]? = some y ∧ y.t = e.t) → M E X i W → I E X (i + 1) W)
    (htell : ∀ E X i e y W, Edg S E → E[i]? = some e → E[i + 1]? = some y → e.t < y.t → M E X i W → Calls Tryz.prog gt (#[.agg #[.int .i64 e.t, .int .i64 y.t]] ++ ct) W fun x W' => x = .returned (.tuple #[]) ∧ ∃ X', I E X' (i + 1) W' ∧ Fr W W' X ∧ ∀ k, X' k → X k ∨ W.heap.size ≤ k) :
    Calls Tryz.prog 69 #[.slice (some ⟨g, off, none⟩) S.length c, .func (.func gp) #[] cp, .func (.func gt) #[] ct] w fun e w' => e = .returned (.tuple #[]) ∧ ∃ E X, Edg S E ∧ I E X E.length w' ∧ Fr w w' Y := by
  have HL := hide hL
  have HR := hide hr
  have HY := hide hY
  have HI := hide hI
  have HLT := hide hlt
  have HM := hide hM
  have HS := hide hstart
  have HP := hide hpass
  have HK := hide hskip
  have HT := hide htell
  have HEP := hide egp
  have HET := hide egt
  have HNE := hide hne
  obtain ⟨m, hm⟩ : ∃ m, m = S.length := ⟨_, rfl⟩
  rw [← hm] at hl ⊢
  have HMM := hide hm
  have HE0 := hide (edgesOf_any (c := c) hL (by rw [← hm]; exact hl) hr)
  rw [← hm] at HE0
  clear hL hm hr hY hI hM hstart hpass hskip htell hne egp egt hlt
  go_enter Tryz.func69, Tryz.ntmps69
  go_wp2_with (go_at_call 96; refine HE0.out.mono ?_; rintro e w1 ⟨ve, E, rfl, hoE, hE, hbE, f1⟩; obtain ⟨ae, ce, hve, hce, _, _, hae⟩ := hoE.shape; have HOE := hide hoE; have HE := hide hE; have HBE := hide hbE; have HF1 := hide f1; have HAE := hide hae; obtain ⟨n, hn⟩ : ∃ n, n = E.length := ⟨_, rfl⟩; rw [← hn] at hve hce; have HN := hide hn; clear hoE hE hbE f1 hae hn; subst hve; clear HE0)
  have HN0 := hide (show 0 < n by have h1 := HE.out.length; rw [← HN.out] at h1; have h2 := List.length_pos_iff.2 HNE.out; omega)
  have HNL := hide (show n ≤ 1099511627776 by have h1 := HE.out.length; rw [← HN.out, ← HMM.out] at h1; omega)
  obtain ⟨ge, hge⟩ : ∃ ge, ae = some ⟨ge, 0, none⟩ := by
    obtain ⟨x, hx⟩ : ∃ p, E[0]? = some p := ⟨_, List.getElem?_eq_getElem (by rw [← HN.out]; exact HN0.out)⟩
    obtain ⟨g1, off1, e1, _⟩ := HOE.out.row.block hx
    obtain ⟨g2, e2⟩ := HAE.out _ e1
    exact ⟨g2, by rw [e1, e2]⟩
  subst hge
  have HGE := hide (show w.heap.size ≤ ge from HBE.out ge rfl)
  have HGE1 := hide (show ge < w1.heap.size from HOE.out.lt rfl)
  obtain ⟨N, hN⟩ : ∃ N, N = w1.heap.size := ⟨_, rfl⟩
  have HI0 := hide (HS.out E w1 HE.out HF1.out)
  have HNN := hide hN
  clear hN HS
  have hnl := HNL.out
  go_loopw [13] (fun i wr => ∃ k : Nat, i = .int .i64 (k : Int) ∧ k ≤ n ∧ (∃ X, I E X k wr ∧ ∀ q, X q → Y q ∨ N ≤ q) ∧ Fr w1 wr (fun q => Y q ∨ N ≤ q)) (fun i _ => n - (intOf i).toNat)
  case atStart => exact ⟨0, rfl, Nat.zero_le _, (by obtain ⟨X, h1, h2⟩ := HI0.out; exact ⟨X, h1, fun q hq => .inl (h2 q hq)⟩), Fr.refl _ _⟩
  case round =>
    rename World => w7
    obtain ⟨k, rfl, hk, ⟨X, hi, hx⟩, hf⟩ := hrel
    have HIK := hide hi
    have HX := hide hx
    have HXL := hide (HLT.out _ _ _ _ hi)
    have HF := hide hf
    clear hi hf hx
    have HYN : Hid (¬ (Y ge ∨ N ≤ ge)) := hide (by
      rintro (h | h)
      · have := (HY.out ge h).1; have := HGE.out; omega
      · have := HGE1.out; have := HNN.out; omega)
    have HYG : Hid (∀ q, q < w.heap.size → ¬ Y q → ¬ (Y q ∨ N ≤ q)) := hide (by
      rintro q hq hn (h | h)
      · exact hn h
      · have := HF1.out.size; have := HNN.out; omega)
    by_cases hlt : k < n
    · obtain ⟨e, he⟩ : ∃ p, E[k]? = some p := ⟨_, List.getElem?_eq_getElem (by rw [← HN.out]; exact hlt)⟩
      obtain ⟨j, s, hs, hof, _⟩ := HE.out.of he
      obtain ⟨et, eo, eb⟩ := e
      simp only at hof
      subst hof
      have HEK := hide he
      have HSJ := hide hs
      have HSL := hide (show Row elS w (some ⟨g, off, none⟩) S from HL.out)
      obtain ⟨g0, off0, e0, hg0, _⟩ := rowS_at HL.out hs
      injection e0 with e0
      injection e0 with e1 e2
      subst e1 e2
      have HYg : Hid (¬ Y g) := hide (fun h => (HY.out g h).2 rfl)
      have HGG := hide hg0
      -- what lies in memory now and behind frames
      have HST : Hid (∀ W, Fr w1 W (fun q => Y q ∨ N ≤ q) → W.cell? ⟨g, off + j * 4, none⟩ = some (.int .i64 s.lo) ∧ W.cell? ⟨g, off + j * 4 + 1, none⟩ = some (.int .i64 s.hi) ∧ W.cell? ⟨g, off + j * 4 + 2, none⟩ = some (.slice s.p s.row.length s.c) ∧ W.cell? ⟨g, off + j * 4 + 3, none⟩ = some (.int .i64 s.n)) := hide (fun W hW => by
        have h1 := (HL.out.fr HF1.out (fun _ _ _ _ h => h)).fr hW (fun g' off' e' _ => by injection e' with e'; injection e' with e1 e2; subst e1; exact HYG.out g HGG.out HYg.out)
        obtain ⟨g', off', e', _, c0, c1, c2, c3⟩ := rowS_at h1 hs
        injection e' with e'; injection e' with e1 e2; subst e1 e2
        exact ⟨c0, c1, c2, c3⟩)
      have HED : Hid (∀ W, Fr w1 W (fun q => Y q ∨ N ≤ q) → ∀ (i : Nat) (z : Ed), E[i]? = some z → W.cell? ⟨ge, i * 3, none⟩ = some (.int .i64 z.t) ∧ W.cell? ⟨ge, i * 3 + 1, none⟩ = some (.int .i64 z.of) ∧ W.cell? ⟨ge, i * 3 + 2, none⟩ = some (.int .i64 z.b)) := hide (fun W hW i z hz => by
        have h1 := (HOE.out.fr hW (fun q hq => by injection hq with hq; subst hq; exact HYN.out)).row
        obtain ⟨g', off', e', _, c0, c1, c2⟩ := rowE_at h1 hz
        injection e' with e'; injection e' with e1 e2; subst e1 e2
        rw [Nat.zero_add] at c0 c1 c2
        exact ⟨c0, c1, c2⟩)
      have hz7 : w.heap.size ≤ w7.heap.size := Nat.le_trans HF1.out.size HF.out.size
      have HZ7 := hide (show N ≤ w7.heap.size by rw [HNN.out]; exact HF.out.size)
      obtain ⟨c0, c1, c2⟩ := HED.out w7 HF.out k _ he
      simp only at c0 c1 c2
      have FA := hide (Fr.alloc w7 (.cells #[.int .i64 et, .int .i64 (j : Int), .int .i64 eb] 124) (fun _ => False))
      obtain ⟨w8, h8⟩ : ∃ w8, w8 = w7.alloc (.cells #[.int .i64 et, .int .i64 (j : Int), .int .i64 eb] 124) := ⟨_, rfl⟩
      obtain ⟨gb, hgb⟩ : ∃ gb, gb = w7.heap.size := ⟨_, rfl⟩
      have HT3 : Hid (Three w8 gb (.int .i64 et) (.int .i64 (j : Int)) (.int .i64 eb)) := hide (by rw [h8, hgb]; exact three_of (heap_alloc_new w7 _))
      rw [← h8] at FA
      have H8 := hide h8
      have HGB := hide hgb
      clear h8 hgb he hs
      go_wp2_with fail
      rw [← H8.out, ← HGB.out]
      have HF8 := hide ((HF.out.trans FA.out).mono (Y := fun q => Y q ∨ N ≤ q) (by rintro q _ (h | h); exact h; exact h.elim))
      have HGBN := hide (show N ≤ gb by rw [HGB.out]; exact HZ7.out)
      have HI8 := hide (HI.out _ _ _ _ _ HIK.out FA.out)
      have HZ8 := hide (show N ≤ w8.heap.size from Nat.le_trans HZ7.out FA.out.size)
      have HXG : Hid (¬ X gb) := hide (fun h => by have := HXL.out gb h; have := HGB.out; omega)
      have HGB8 := hide (show gb < w8.heap.size by have := World.block_lt_of_cell? w8 _ HT3.out.1; exact this)
      clear c0 c1 c2 H8 FA HIK HF HZ7 hz7 HGB
      refine wp_region_K (fun z => decide (z < 8)) (fun U : World => U = w8.drew) (by kernel_rfl) ?_
      have D8 := Fr.drew w8 (fun _ => False)
      obtain ⟨d0, d1, d2, d3⟩ := HST.out w8.drew ((HF8.out.trans D8).mono (by rintro q _ (h | h); exact h; exact h.elim))
      have HIV := hide (HI.out _ _ _ _ _ HI8.out D8)
      have HFV := hide ((HF8.out.trans D8).mono (Y := fun q => Y q ∨ N ≤ q) (by rintro q _ (h | h); exact h; exact h.elim))
      have HT3V := hide (HT3.out.fr D8 (fun h => h))
      have HZV : Hid (N ≤ w8.drew.heap.size) := hide HZ8.out
      have HGBV : Hid (gb < w8.drew.heap.size) := hide HGB8.out
      clear D8 HI8 HF8 HT3 HZ8 HGB8
      generalize w8.drew = V at *
      have t0 := HT3V.out.1
      have t1 := HT3V.out.2.1
      have t2 := HT3V.out.2.2.1
      have hS : (fun U : World => U = V) V := rfl
      have hjm : j < m := by rw [HMM.out]; exact (List.getElem?_eq_some_iff.1 HSJ.out).1
      refine wpAnyK_takeTo 0 (some 18) ((.func (.func gp) #[] cp)) [8] rfl rfl (by kernel_rfl) (by kernel_rfl) (by kernel_rfl) (by kernel_rfl) (fun _ _ _ h => h) hS (Or.inl ⟨rfl, fun w1 hw1 => by cases hw1; go_simp⟩) ?_
      simp only [Act.put, List.setIfInBounds_toArray, List.set_cons_zero, List.set_cons_succ]
      refine wpAnyK_takeTo 1 (some 19) ((.slice (some ⟨g, off, none⟩) m c)) [4, 5, 8] rfl rfl (by kernel_rfl) (by kernel_rfl) (by kernel_rfl) (by kernel_rfl) (fun _ _ _ h => h) hS (Or.inl ⟨rfl, fun w1 hw1 => by cases hw1; go_simp⟩) ?_
      simp only [Act.put, List.setIfInBounds_toArray, List.set_cons_zero, List.set_cons_succ]
      refine wpAnyK_takeTo 2 (some 20) ((.pointer (some ⟨gb, 1, none⟩))) [3, 4, 5, 8] rfl rfl (by kernel_rfl) (by kernel_rfl) (by kernel_rfl) (by kernel_rfl) (fun _ _ _ h => h) hS (Or.inl ⟨rfl, fun w1 hw1 => by cases hw1; go_simp⟩) ?_
      simp only [Act.put, List.setIfInBounds_toArray, List.set_cons_zero, List.set_cons_succ]
      refine wpAnyK_takeTo 3 (some 21) ((.int .i64 (j : Int))) [4, 5, 8] rfl rfl (by kernel_rfl) (by kernel_rfl) (by kernel_rfl) (by kernel_rfl) (fun _ _ _ h => h) hS (Or.inl ⟨rfl, fun w1 hw1 => by cases hw1; go_simp⟩) ?_
      simp only [Act.put, List.setIfInBounds_toArray, List.set_cons_zero, List.set_cons_succ]
      refine wpAnyK_takeTo 4 (some 22) ((.pointer (some ⟨g, off + j * 4, none⟩))) [5, 8] rfl rfl (by kernel_rfl) (by kernel_rfl) (by kernel_rfl) (by kernel_rfl) (fun _ _ _ h => h) hS (Or.inl ⟨rfl, fun w1 hw1 => by cases hw1; go_simp⟩) ?_
      simp only [Act.put, List.setIfInBounds_toArray, List.set_cons_zero, List.set_cons_succ]
      refine wpAnyK_takeTo 5 (some 23) ((.agg #[.int .i64 s.lo, .int .i64 s.hi, .slice s.p s.row.length s.c, .int .i64 s.n])) [8] rfl rfl (by kernel_rfl) (by kernel_rfl) (by kernel_rfl) (by kernel_rfl) (fun _ _ _ h => h) hS (Or.inl ⟨rfl, fun w1 hw1 => by cases hw1; go_simp⟩) ?_
      simp only [Act.put, List.setIfInBounds_toArray, List.set_cons_zero, List.set_cons_succ]
      refine wpAnyK_takeTo 6 (some 24) ((.pointer (some ⟨gb, 2, none⟩))) [7, 8] rfl rfl (by kernel_rfl) (by kernel_rfl) (by kernel_rfl) (by kernel_rfl) (fun _ _ _ h => h) hS (Or.inl ⟨rfl, fun w1 hw1 => by cases hw1; go_simp⟩) ?_
      simp only [Act.put, List.setIfInBounds_toArray, List.set_cons_zero, List.set_cons_succ]
      refine wpAnyK_takeTo 7 (some 25) ((.int .i64 eb)) [8] rfl rfl (by kernel_rfl) (by kernel_rfl) (by kernel_rfl) (by kernel_rfl) (fun _ _ _ h => h) hS (Or.inl ⟨rfl, fun w1 hw1 => by cases hw1; go_simp⟩) ?_
      simp only [Act.put, List.setIfInBounds_toArray, List.set_cons_zero, List.set_cons_succ]
      refine wpAnyK_one (i := 8) (by kernel_rfl) rfl rfl ?_
      obtain ⟨AR, hAR⟩ : ∃ AR : Array Value, AR = #[.agg #[.int .i64 s.lo, .int .i64 s.hi, .slice s.p s.row.length s.c, .int .i64 s.n], .int .i64 eb] ++ cp := ⟨_, rfl⟩
      have hcl := HP.out E X k ⟨et, (j : Int), eb⟩ s V HE.out HEK.out ⟨j, rfl, HSJ.out⟩ HIV.out
      simp only at hcl
      rw [← hAR] at hcl
      have HCL := hide hcl
      clear hcl
      refine wp_call_to (some 26) rfl gp AR ?_ HCL.out ?_
      · go_simp
        exact HEP.out _ _
      rintro x W9 ⟨rfl, X9, hm9, hf9, hx9⟩
      refine ⟨_, rfl, fun h => absurd h (by decide), ?_⟩
      simp only [Act.put, List.setIfInBounds_toArray, List.set_cons_zero, List.set_cons_succ]
      refine wpAnyK_done (by kernel_rfl) ?_ _
      have HM9 := hide hm9
      have HF9 := hide ((HFV.out.trans hf9).mono (Y := fun q => Y q ∨ N ≤ q) (by rintro q _ (h | h); exact h; exact HX.out q h))
      have HX9 := hide (show ∀ q, X9 q → Y q ∨ N ≤ q from fun q hq => by rcases hx9 q hq with h | h; exact HX.out q h; exact .inr (Nat.le_trans HZV.out h))
      have HXG9 := hide (show ¬ X9 gb from fun hq => by rcases hx9 gb hq with h | h; exact HXG.out h; have := HGBV.out; omega)
      have HT9 := hide (HT3V.out.fr hf9 HXG.out)
      have HZ9 := hide (Nat.le_trans HGBV.out hf9.size)
      clear t0 t1 t2 d0 d1 d2 d3 hS hm9 hf9 hx9 HIV HT3V HFV HCL hAR HGBV HZV HXG HX HXL HI0
      go_wp2_with fail
      refine wp_region_K (fun _ => true) (fun U : World => U = W9.drew) (by kernel_rfl) ?_
      have D9 := Fr.drew W9 (fun _ => False)
      have HMV := hide (HM.out _ _ _ _ _ HM9.out D9)
      have HFV9 := hide ((HF9.out.trans D9).mono (Y := fun q => Y q ∨ N ≤ q) (by rintro q _ (h | h); exact h; exact h.elim))
      have HTV9 := hide (HT9.out.fr D9 (fun h => h))
      have HZV9 : Hid (gb < W9.drew.heap.size) := hide HZ9.out
      clear D9 HM9 HF9 HT9 HZ9
      generalize W9.drew = V9 at *
      have t0 := HTV9.out.1
      have hS : (fun U : World => U = V9) V9 := rfl
      have hkz : (k : Int) + 1 ≤ (n : Int) := by omega
      have hw1 : IntKind.i64.wrap ((k : Int) + 1) = (k : Int) + 1 := by rw [IntKind.wrap_i64]; omega
      by_cases hk1 : k + 1 < n
      · obtain ⟨y, hy⟩ : ∃ p, E[k + 1]? = some p := ⟨_, List.getElem?_eq_getElem (by rw [← HN.out]; exact hk1)⟩
        obtain ⟨c0, _, _⟩ := HED.out V9 HFV9.out (k + 1) y hy
        have HYY := hide hy
        have hkz1 : (k : Int) + 1 < (n : Int) := by omega
        have hkn : ((k : Int) + 1).toNat = k + 1 := by omega
        have hk0 : (0 : Int) ≤ (k : Int) + 1 := by omega
        by_cases hty : et < y.t
        · clear hy
          refine wpAnyK_takeTo 0 (some 27) ((.int .i64 (k : Int))) [1, 4, 5, 6, 7, 8, 9, 10, 11, 12, 13, 14, 15] rfl rfl (by kernel_rfl) (by kernel_rfl) (by kernel_rfl) (by kernel_rfl) (fun _ _ _ h => h) hS (Or.inl ⟨rfl, fun w1 hw1 => by cases hw1; go_simp⟩) ?_
          simp only [Act.put, List.setIfInBounds_toArray, List.set_cons_zero, List.set_cons_succ]
          refine wpAnyK_takeTo 1 (some 28) ((.int .i64 ((k : Int) + 1))) [4, 5, 6, 7, 8, 9, 10, 11, 12, 13, 14, 15] rfl rfl (by kernel_rfl) (by kernel_rfl) (by kernel_rfl) (by kernel_rfl) (fun _ _ _ h => h) hS (Or.inl ⟨rfl, fun w1 hw1 => by cases hw1; go_simp⟩) ?_
          simp only [Act.put, List.setIfInBounds_toArray, List.set_cons_zero, List.set_cons_succ]
          refine wpAnyK_takeTo 2 (some 29) ((.slice (some ⟨ge, 0, none⟩) n ce)) [3, 4, 5, 6, 7, 8, 9, 10, 11, 12, 13, 14, 15] rfl rfl (by kernel_rfl) (by kernel_rfl) (by kernel_rfl) (by kernel_rfl) (fun _ _ _ h => h) hS (Or.inl ⟨rfl, fun w1 hw1 => by cases hw1; go_simp⟩) ?_
          simp only [Act.put, List.setIfInBounds_toArray, List.set_cons_zero, List.set_cons_succ]
          refine wpAnyK_takeTo 3 (some 30) ((.int .i64 (n : Int))) [4, 5, 6, 7, 8, 9, 10, 11, 12, 13, 14, 15] rfl rfl (by kernel_rfl) (by kernel_rfl) (by kernel_rfl) (by kernel_rfl) (fun _ _ _ h => h) hS (Or.inl ⟨rfl, fun w1 hw1 => by cases hw1; go_simp⟩) ?_
          simp only [Act.put, List.setIfInBounds_toArray, List.set_cons_zero, List.set_cons_succ]
          refine wpAnyK_takeTo 4 (some 31) ((.bool true)) [5, 6, 7, 8, 9, 10, 11, 12, 13, 14, 15] rfl rfl (by kernel_rfl) (by kernel_rfl) (by kernel_rfl) (by kernel_rfl) (fun _ _ _ h => h) hS (Or.inl ⟨rfl, fun w1 hw1 => by cases hw1; go_simp⟩) ?_
          simp only [Act.put, List.setIfInBounds_toArray, List.set_cons_zero, List.set_cons_succ]
          refine wpAnyK_takeTo 5 (some 32) ((.bool true)) [6, 7, 8, 9, 10, 11, 12, 13, 14, 15] rfl rfl (by kernel_rfl) (by kernel_rfl) (by kernel_rfl) (by kernel_rfl) (fun _ _ _ h => h) hS (Or.inl ⟨rfl, fun w1 hw1 => by cases hw1; go_simp⟩) ?_
          simp only [Act.put, List.setIfInBounds_toArray, List.set_cons_zero, List.set_cons_succ]
          refine wpAnyK_takeTo 6 (some 33) ((.pointer (some ⟨gb, 0, none⟩))) [7, 14, 15] rfl rfl (by kernel_rfl) (by kernel_rfl) (by kernel_rfl) (by kernel_rfl) (fun _ _ _ h => h) hS (Or.inl ⟨rfl, fun w1 hw1 => by cases hw1; go_simp⟩) ?_
          simp only [Act.put, List.setIfInBounds_toArray, List.set_cons_zero, List.set_cons_succ]
          refine wpAnyK_takeTo 7 (some 34) ((.int .i64 et)) [14, 15] rfl rfl (by kernel_rfl) (by kernel_rfl) (by kernel_rfl) (by kernel_rfl) (fun _ _ _ h => h) hS (Or.inl ⟨rfl, fun w1 hw1 => by cases hw1; go_simp⟩) ?_
          simp only [Act.put, List.setIfInBounds_toArray, List.set_cons_zero, List.set_cons_succ]
          refine wpAnyK_takeTo 8 (some 35) ((.slice (some ⟨ge, 0, none⟩) n ce)) [11, 12, 13, 14, 15] rfl rfl (by kernel_rfl) (by kernel_rfl) (by kernel_rfl) (by kernel_rfl) (fun _ _ _ h => h) hS (Or.inl ⟨rfl, fun w1 hw1 => by cases hw1; go_simp⟩) ?_
          simp only [Act.put, List.setIfInBounds_toArray, List.set_cons_zero, List.set_cons_succ]
          refine wpAnyK_takeTo 9 (some 36) ((.int .i64 (k : Int))) [10, 11, 12, 13, 14, 15] rfl rfl (by kernel_rfl) (by kernel_rfl) (by kernel_rfl) (by kernel_rfl) (fun _ _ _ h => h) hS (Or.inl ⟨rfl, fun w1 hw1 => by cases hw1; go_simp⟩) ?_
          simp only [Act.put, List.setIfInBounds_toArray, List.set_cons_zero, List.set_cons_succ]
          refine wpAnyK_takeTo 10 (some 37) ((.int .i64 ((k : Int) + 1))) [11, 12, 13, 14, 15] rfl rfl (by kernel_rfl) (by kernel_rfl) (by kernel_rfl) (by kernel_rfl) (fun _ _ _ h => h) hS (Or.inl ⟨rfl, fun w1 hw1 => by cases hw1; go_simp⟩) ?_
          simp only [Act.put, List.setIfInBounds_toArray, List.set_cons_zero, List.set_cons_succ]
          refine wpAnyK_takeTo 11 (some 38) ((.pointer (some ⟨ge, (k + 1) * 3, none⟩))) [12, 13, 14, 15] rfl rfl (by kernel_rfl) (by kernel_rfl) (by kernel_rfl) (by kernel_rfl) (fun _ _ _ h => h) hS (Or.inl ⟨rfl, fun w1 hw1 => by cases hw1; go_simp⟩) ?_
          simp only [Act.put, List.setIfInBounds_toArray, List.set_cons_zero, List.set_cons_succ]
          refine wpAnyK_takeTo 12 (some 39) ((.pointer (some ⟨ge, (k + 1) * 3, none⟩))) [13, 14, 15] rfl rfl (by kernel_rfl) (by kernel_rfl) (by kernel_rfl) (by kernel_rfl) (fun _ _ _ h => h) hS (Or.inl ⟨rfl, fun w1 hw1 => by cases hw1; go_simp⟩) ?_
          simp only [Act.put, List.setIfInBounds_toArray, List.set_cons_zero, List.set_cons_succ]
          refine wpAnyK_takeTo 13 (some 40) ((.int .i64 y.t)) [14, 15] rfl rfl (by kernel_rfl) (by kernel_rfl) (by kernel_rfl) (by kernel_rfl) (fun _ _ _ h => h) hS (Or.inl ⟨rfl, fun w1 hw1 => by cases hw1; go_simp⟩) ?_
          simp only [Act.put, List.setIfInBounds_toArray, List.set_cons_zero, List.set_cons_succ]
          refine wpAnyK_takeTo 14 (some 41) ((.bool true)) [15] rfl rfl (by kernel_rfl) (by kernel_rfl) (by kernel_rfl) (by kernel_rfl) (fun _ _ _ h => h) hS (Or.inl ⟨rfl, fun w1 hw1 => by cases hw1; go_simp⟩) ?_
          simp only [Act.put, List.setIfInBounds_toArray, List.set_cons_zero, List.set_cons_succ]
          refine wpAnyK_takeTo 15 (some 42) ((.bool true)) [] rfl rfl (by kernel_rfl) (by kernel_rfl) (by kernel_rfl) (by kernel_rfl) (fun _ _ _ h => h) hS (Or.inl ⟨rfl, fun w1 hw1 => by cases hw1; go_simp⟩) ?_
          simp only [Act.put, List.setIfInBounds_toArray, List.set_cons_zero, List.set_cons_succ]
          refine wpAnyK_done (by kernel_rfl) ?_ _
          go_wp2_with fail
          refine wp_region_K (fun z => decide (z < 10)) (fun U : World => U = V9.drew) (by kernel_rfl) ?_
          have D10 := Fr.drew V9 (fun _ => False)
          have HM10 := hide (HM.out _ _ _ _ _ HMV.out D10)
          have HF10 := hide ((HFV9.out.trans D10).mono (Y := fun q => Y q ∨ N ≤ q) (by rintro q _ (h | h); exact h; exact h.elim))
          have t0' := (HTV9.out.fr D10 (fun h => h)).1
          obtain ⟨c0', _, _⟩ := HED.out V9.drew HF10.out (k + 1) y HYY.out
          have HN10 := hide (show N ≤ V9.drew.heap.size by have := HF10.out.size; rw [HNN.out]; exact this)
          clear D10 HMV HFV9 HTV9 HZV9 t0 c0 hS
          generalize V9.drew = V at *
          have hS : (fun U : World => U = V) V := rfl
          refine wpAnyK_takeTo 0 (some 43) ((.func (.func gt) #[] ct)) [10] rfl rfl (by kernel_rfl) (by kernel_rfl) (by kernel_rfl) (by kernel_rfl) (fun _ _ _ h => h) hS (Or.inl ⟨rfl, fun w1 hw1 => by cases hw1; go_simp⟩) ?_
          simp only [Act.put, List.setIfInBounds_toArray, List.set_cons_zero, List.set_cons_succ]
          refine wpAnyK_takeTo 1 (some 44) ((.pointer (some ⟨gb, 0, none⟩))) [2, 9, 10] rfl rfl (by kernel_rfl) (by kernel_rfl) (by kernel_rfl) (by kernel_rfl) (fun _ _ _ h => h) hS (Or.inl ⟨rfl, fun w1 hw1 => by cases hw1; go_simp⟩) ?_
          simp only [Act.put, List.setIfInBounds_toArray, List.set_cons_zero, List.set_cons_succ]
          refine wpAnyK_takeTo 2 (some 45) ((.int .i64 et)) [9, 10] rfl rfl (by kernel_rfl) (by kernel_rfl) (by kernel_rfl) (by kernel_rfl) (fun _ _ _ h => h) hS (Or.inl ⟨rfl, fun w1 hw1 => by cases hw1; go_simp⟩) ?_
          simp only [Act.put, List.setIfInBounds_toArray, List.set_cons_zero, List.set_cons_succ]
          refine wpAnyK_takeTo 3 (some 46) ((.slice (some ⟨ge, 0, none⟩) n ce)) [6, 7, 8, 9, 10] rfl rfl (by kernel_rfl) (by kernel_rfl) (by kernel_rfl) (by kernel_rfl) (fun _ _ _ h => h) hS (Or.inl ⟨rfl, fun w1 hw1 => by cases hw1; go_simp⟩) ?_
          simp only [Act.put, List.setIfInBounds_toArray, List.set_cons_zero, List.set_cons_succ]
          refine wpAnyK_takeTo 4 (some 47) ((.int .i64 (k : Int))) [5, 6, 7, 8, 9, 10] rfl rfl (by kernel_rfl) (by kernel_rfl) (by kernel_rfl) (by kernel_rfl) (fun _ _ _ h => h) hS (Or.inl ⟨rfl, fun w1 hw1 => by cases hw1; go_simp⟩) ?_
          simp only [Act.put, List.setIfInBounds_toArray, List.set_cons_zero, List.set_cons_succ]
          refine wpAnyK_takeTo 5 (some 48) ((.int .i64 ((k : Int) + 1))) [6, 7, 8, 9, 10] rfl rfl (by kernel_rfl) (by kernel_rfl) (by kernel_rfl) (by kernel_rfl) (fun _ _ _ h => h) hS (Or.inl ⟨rfl, fun w1 hw1 => by cases hw1; go_simp⟩) ?_
          simp only [Act.put, List.setIfInBounds_toArray, List.set_cons_zero, List.set_cons_succ]
          refine wpAnyK_takeTo 6 (some 49) ((.pointer (some ⟨ge, (k + 1) * 3, none⟩))) [7, 8, 9, 10] rfl rfl (by kernel_rfl) (by kernel_rfl) (by kernel_rfl) (by kernel_rfl) (fun _ _ _ h => h) hS (Or.inl ⟨rfl, fun w1 hw1 => by cases hw1; go_simp⟩) ?_
          simp only [Act.put, List.setIfInBounds_toArray, List.set_cons_zero, List.set_cons_succ]
          refine wpAnyK_takeTo 7 (some 50) ((.pointer (some ⟨ge, (k + 1) * 3, none⟩))) [8, 9, 10] rfl rfl (by kernel_rfl) (by kernel_rfl) (by kernel_rfl) (by kernel_rfl) (fun _ _ _ h => h) hS (Or.inl ⟨rfl, fun w1 hw1 => by cases hw1; go_simp⟩) ?_
          simp only [Act.put, List.setIfInBounds_toArray, List.set_cons_zero, List.set_cons_succ]
          refine wpAnyK_takeTo 8 (some 51) ((.int .i64 y.t)) [9, 10] rfl rfl (by kernel_rfl) (by kernel_rfl) (by kernel_rfl) (by kernel_rfl) (fun _ _ _ h => h) hS (Or.inl ⟨rfl, fun w1 hw1 => by cases hw1; go_simp⟩) ?_
          simp only [Act.put, List.setIfInBounds_toArray, List.set_cons_zero, List.set_cons_succ]
          refine wpAnyK_takeTo 9 (some 52) ((.agg #[.int .i64 et, .int .i64 y.t])) [10] rfl rfl (by kernel_rfl) (by kernel_rfl) (by kernel_rfl) (by kernel_rfl) (fun _ _ _ h => h) hS (Or.inl ⟨rfl, fun w1 hw1 => by cases hw1; go_simp⟩) ?_
          simp only [Act.put, List.setIfInBounds_toArray, List.set_cons_zero, List.set_cons_succ]
          refine wpAnyK_one (i := 10) (by kernel_rfl) rfl rfl ?_
          obtain ⟨AR, hAR⟩ : ∃ AR : Array Value, AR = #[.agg #[.int .i64 et, .int .i64 y.t]] ++ ct := ⟨_, rfl⟩
          have hcl := HT.out E X9 k ⟨et, (j : Int), eb⟩ y V HE.out HEK.out HYY.out hty HM10.out
          simp only at hcl
          rw [← hAR] at hcl
          have HCL := hide hcl
          clear hcl
          refine wp_call_to (some 53) rfl gt AR ?_ HCL.out ?_
          · go_simp
            exact HET.out _ _
          rintro x W11 ⟨rfl, X11, hi11, hf11, hx11⟩
          refine ⟨_, rfl, fun h => absurd h (by decide), ?_⟩
          simp only [Act.put, List.setIfInBounds_toArray, List.set_cons_zero, List.set_cons_succ]
          refine wpAnyK_done (by kernel_rfl) ?_ _
          have HI11 := hide hi11
          have HX11 := hide (show ∀ q, X11 q → Y q ∨ N ≤ q from fun q hq => by rcases hx11 q hq with h | h; exact HX9.out q h; exact .inr (Nat.le_trans HN10.out h))
          have HF11 := hide ((HF10.out.trans hf11).mono (Y := fun q => Y q ∨ N ≤ q) (by rintro q _ (h | h); exact h; exact HX9.out q h))
          clear hi11 hf11 hx11 hAR HCL t0' c0' hS
          go_wp2
          go_roundw
          case rel => exact ⟨k + 1, by go_num, by omega, ⟨X11, HI11.out, HX11.out⟩, HF11.out⟩
          case measure => simp [intOf]; omega
        · have HSK : Hid (k + 1 = E.length ∨ ∃ z, E[k + 1]? = some z ∧ z.t = et) := hide (.inr ⟨y, hy, by have := HE.out.mono (Nat.le_succ k) HEK.out hy; simp only at this; omega⟩)
          clear hy
          refine wpAnyK_takeTo 0 (some 27) ((.int .i64 (k : Int))) [1, 4, 5, 6, 7, 8, 9, 10, 11, 12, 13, 14, 15] rfl rfl (by kernel_rfl) (by kernel_rfl) (by kernel_rfl) (by kernel_rfl) (fun _ _ _ h => h) hS (Or.inl ⟨rfl, fun w1 hw1 => by cases hw1; go_simp⟩) ?_
          simp only [Act.put, List.setIfInBounds_toArray, List.set_cons_zero, List.set_cons_succ]
          refine wpAnyK_takeTo 1 (some 28) ((.int .i64 ((k : Int) + 1))) [4, 5, 6, 7, 8, 9, 10, 11, 12, 13, 14, 15] rfl rfl (by kernel_rfl) (by kernel_rfl) (by kernel_rfl) (by kernel_rfl) (fun _ _ _ h => h) hS (Or.inl ⟨rfl, fun w1 hw1 => by cases hw1; go_simp⟩) ?_
          simp only [Act.put, List.setIfInBounds_toArray, List.set_cons_zero, List.set_cons_succ]
          refine wpAnyK_takeTo 2 (some 29) ((.slice (some ⟨ge, 0, none⟩) n ce)) [3, 4, 5, 6, 7, 8, 9, 10, 11, 12, 13, 14, 15] rfl rfl (by kernel_rfl) (by kernel_rfl) (by kernel_rfl) (by kernel_rfl) (fun _ _ _ h => h) hS (Or.inl ⟨rfl, fun w1 hw1 => by cases hw1; go_simp⟩) ?_
          simp only [Act.put, List.setIfInBounds_toArray, List.set_cons_zero, List.set_cons_succ]
          refine wpAnyK_takeTo 3 (some 30) ((.int .i64 (n : Int))) [4, 5, 6, 7, 8, 9, 10, 11, 12, 13, 14, 15] rfl rfl (by kernel_rfl) (by kernel_rfl) (by kernel_rfl) (by kernel_rfl) (fun _ _ _ h => h) hS (Or.inl ⟨rfl, fun w1 hw1 => by cases hw1; go_simp⟩) ?_
          simp only [Act.put, List.setIfInBounds_toArray, List.set_cons_zero, List.set_cons_succ]
          refine wpAnyK_takeTo 4 (some 31) ((.bool true)) [5, 6, 7, 8, 9, 10, 11, 12, 13, 14, 15] rfl rfl (by kernel_rfl) (by kernel_rfl) (by kernel_rfl) (by kernel_rfl) (fun _ _ _ h => h) hS (Or.inl ⟨rfl, fun w1 hw1 => by cases hw1; go_simp⟩) ?_
          simp only [Act.put, List.setIfInBounds_toArray, List.set_cons_zero, List.set_cons_succ]
          refine wpAnyK_takeTo 5 (some 32) ((.bool true)) [6, 7, 8, 9, 10, 11, 12, 13, 14, 15] rfl rfl (by kernel_rfl) (by kernel_rfl) (by kernel_rfl) (by kernel_rfl) (fun _ _ _ h => h) hS (Or.inl ⟨rfl, fun w1 hw1 => by cases hw1; go_simp⟩) ?_
          simp only [Act.put, List.setIfInBounds_toArray, List.set_cons_zero, List.set_cons_succ]
          refine wpAnyK_takeTo 6 (some 33) ((.pointer (some ⟨gb, 0, none⟩))) [7, 14, 15] rfl rfl (by kernel_rfl) (by kernel_rfl) (by kernel_rfl) (by kernel_rfl) (fun _ _ _ h => h) hS (Or.inl ⟨rfl, fun w1 hw1 => by cases hw1; go_simp⟩) ?_
          simp only [Act.put, List.setIfInBounds_toArray, List.set_cons_zero, List.set_cons_succ]
          refine wpAnyK_takeTo 7 (some 34) ((.int .i64 et)) [14, 15] rfl rfl (by kernel_rfl) (by kernel_rfl) (by kernel_rfl) (by kernel_rfl) (fun _ _ _ h => h) hS (Or.inl ⟨rfl, fun w1 hw1 => by cases hw1; go_simp⟩) ?_
          simp only [Act.put, List.setIfInBounds_toArray, List.set_cons_zero, List.set_cons_succ]
          refine wpAnyK_takeTo 8 (some 35) ((.slice (some ⟨ge, 0, none⟩) n ce)) [11, 12, 13, 14, 15] rfl rfl (by kernel_rfl) (by kernel_rfl) (by kernel_rfl) (by kernel_rfl) (fun _ _ _ h => h) hS (Or.inl ⟨rfl, fun w1 hw1 => by cases hw1; go_simp⟩) ?_
          simp only [Act.put, List.setIfInBounds_toArray, List.set_cons_zero, List.set_cons_succ]
          refine wpAnyK_takeTo 9 (some 36) ((.int .i64 (k : Int))) [10, 11, 12, 13, 14, 15] rfl rfl (by kernel_rfl) (by kernel_rfl) (by kernel_rfl) (by kernel_rfl) (fun _ _ _ h => h) hS (Or.inl ⟨rfl, fun w1 hw1 => by cases hw1; go_simp⟩) ?_
          simp only [Act.put, List.setIfInBounds_toArray, List.set_cons_zero, List.set_cons_succ]
          refine wpAnyK_takeTo 10 (some 37) ((.int .i64 ((k : Int) + 1))) [11, 12, 13, 14, 15] rfl rfl (by kernel_rfl) (by kernel_rfl) (by kernel_rfl) (by kernel_rfl) (fun _ _ _ h => h) hS (Or.inl ⟨rfl, fun w1 hw1 => by cases hw1; go_simp⟩) ?_
          simp only [Act.put, List.setIfInBounds_toArray, List.set_cons_zero, List.set_cons_succ]
          refine wpAnyK_takeTo 11 (some 38) ((.pointer (some ⟨ge, (k + 1) * 3, none⟩))) [12, 13, 14, 15] rfl rfl (by kernel_rfl) (by kernel_rfl) (by kernel_rfl) (by kernel_rfl) (fun _ _ _ h => h) hS (Or.inl ⟨rfl, fun w1 hw1 => by cases hw1; go_simp⟩) ?_
          simp only [Act.put, List.setIfInBounds_toArray, List.set_cons_zero, List.set_cons_succ]
          refine wpAnyK_takeTo 12 (some 39) ((.pointer (some ⟨ge, (k + 1) * 3, none⟩))) [13, 14, 15] rfl rfl (by kernel_rfl) (by kernel_rfl) (by kernel_rfl) (by kernel_rfl) (fun _ _ _ h => h) hS (Or.inl ⟨rfl, fun w1 hw1 => by cases hw1; go_simp⟩) ?_
          simp only [Act.put, List.setIfInBounds_toArray, List.set_cons_zero, List.set_cons_succ]
          refine wpAnyK_takeTo 13 (some 40) ((.int .i64 y.t)) [14, 15] rfl rfl (by kernel_rfl) (by kernel_rfl) (by kernel_rfl) (by kernel_rfl) (fun _ _ _ h => h) hS (Or.inl ⟨rfl, fun w1 hw1 => by cases hw1; go_simp⟩) ?_
          simp only [Act.put, List.setIfInBounds_toArray, List.set_cons_zero, List.set_cons_succ]
          refine wpAnyK_takeTo 14 (some 41) ((.bool false)) [15] rfl rfl (by kernel_rfl) (by kernel_rfl) (by kernel_rfl) (by kernel_rfl) (fun _ _ _ h => h) hS (Or.inl ⟨rfl, fun w1 hw1 => by cases hw1; go_simp⟩) ?_
          simp only [Act.put, List.setIfInBounds_toArray, List.set_cons_zero, List.set_cons_succ]
          refine wpAnyK_takeTo 15 (some 42) ((.bool false)) [] rfl rfl (by kernel_rfl) (by kernel_rfl) (by kernel_rfl) (by kernel_rfl) (fun _ _ _ h => h) hS (Or.inl ⟨rfl, fun w1 hw1 => by cases hw1; go_simp⟩) ?_
          simp only [Act.put, List.setIfInBounds_toArray, List.set_cons_zero, List.set_cons_succ]
          refine wpAnyK_done (by kernel_rfl) ?_ _
          go_wp2
          go_roundw
          case rel => exact ⟨k + 1, by go_num, by omega, ⟨X9, HK.out E X9 k ⟨et, (j : Int), eb⟩ V9 HE.out HEK.out HSK.out HMV.out, HX9.out⟩, HFV9.out⟩
          case measure => simp [intOf]; omega
      · have HSK : Hid (k + 1 = E.length ∨ ∃ z, E[k + 1]? = some z ∧ z.t = et) := hide (.inl (by have := HN.out; omega))
        have hkz1 : ¬ (k : Int) + 1 < (n : Int) := by omega
        refine wpAnyK_takeTo 0 (some 27) ((.int .i64 (k : Int))) [1, 4, 5, 6, 7, 8, 9, 10, 11, 12, 13, 14, 15] rfl rfl (by kernel_rfl) (by kernel_rfl) (by kernel_rfl) (by kernel_rfl) (fun _ _ _ h => h) hS (Or.inl ⟨rfl, fun w1 hw1 => by cases hw1; go_simp⟩) ?_
        simp only [Act.put, List.setIfInBounds_toArray, List.set_cons_zero, List.set_cons_succ]
        refine wpAnyK_takeTo 1 (some 28) ((.int .i64 ((k : Int) + 1))) [4, 5, 6, 7, 8, 9, 10, 11, 12, 13, 14, 15] rfl rfl (by kernel_rfl) (by kernel_rfl) (by kernel_rfl) (by kernel_rfl) (fun _ _ _ h => h) hS (Or.inl ⟨rfl, fun w1 hw1 => by cases hw1; go_simp⟩) ?_
        simp only [Act.put, List.setIfInBounds_toArray, List.set_cons_zero, List.set_cons_succ]
        refine wpAnyK_takeTo 2 (some 29) ((.slice (some ⟨ge, 0, none⟩) n ce)) [3, 4, 5, 6, 7, 8, 9, 10, 11, 12, 13, 14, 15] rfl rfl (by kernel_rfl) (by kernel_rfl) (by kernel_rfl) (by kernel_rfl) (fun _ _ _ h => h) hS (Or.inl ⟨rfl, fun w1 hw1 => by cases hw1; go_simp⟩) ?_
        simp only [Act.put, List.setIfInBounds_toArray, List.set_cons_zero, List.set_cons_succ]
        refine wpAnyK_takeTo 3 (some 30) ((.int .i64 (n : Int))) [4, 5, 6, 7, 8, 9, 10, 11, 12, 13, 14, 15] rfl rfl (by kernel_rfl) (by kernel_rfl) (by kernel_rfl) (by kernel_rfl) (fun _ _ _ h => h) hS (Or.inl ⟨rfl, fun w1 hw1 => by cases hw1; go_simp⟩) ?_
        simp only [Act.put, List.setIfInBounds_toArray, List.set_cons_zero, List.set_cons_succ]
        refine wpAnyK_takeTo 4 (some 31) ((.bool false)) [5, 6, 7, 8, 9, 10, 11, 12, 13, 14, 15] rfl rfl (by kernel_rfl) (by kernel_rfl) (by kernel_rfl) (by kernel_rfl) (fun _ _ _ h => h) hS (Or.inl ⟨rfl, fun w1 hw1 => by cases hw1; go_simp⟩) ?_
        simp only [Act.put, List.setIfInBounds_toArray, List.set_cons_zero, List.set_cons_succ]
        refine wpAnyK_takeTo 5 (some 32) ((.bool false)) [6, 7, 8, 9, 10, 11, 12, 13, 14, 15] rfl rfl (by kernel_rfl) (by kernel_rfl) (by kernel_rfl) (by kernel_rfl) (fun _ _ _ h => h) hS (Or.inl ⟨rfl, fun w1 hw1 => by cases hw1; go_simp⟩) ?_
        simp only [Act.put, List.setIfInBounds_toArray, List.set_cons_zero, List.set_cons_succ]
        refine wpAnyK_takeTo 6 (some 33) (undef) [7, 14, 15] rfl rfl (by kernel_rfl) (by kernel_rfl) (by kernel_rfl) (by kernel_rfl) (fun _ _ _ h => h) hS (Or.inr ⟨rfl, rfl⟩) ?_
        simp only [Act.put, List.setIfInBounds_toArray, List.set_cons_zero, List.set_cons_succ]
        refine wpAnyK_takeTo 7 (some 34) (undef) [14, 15] rfl rfl (by kernel_rfl) (by kernel_rfl) (by kernel_rfl) (by kernel_rfl) (fun _ _ _ h => h) hS (Or.inr ⟨rfl, rfl⟩) ?_
        simp only [Act.put, List.setIfInBounds_toArray, List.set_cons_zero, List.set_cons_succ]
        refine wpAnyK_takeTo 8 (some 35) (undef) [11, 12, 13, 14, 15] rfl rfl (by kernel_rfl) (by kernel_rfl) (by kernel_rfl) (by kernel_rfl) (fun _ _ _ h => h) hS (Or.inr ⟨rfl, rfl⟩) ?_
        simp only [Act.put, List.setIfInBounds_toArray, List.set_cons_zero, List.set_cons_succ]
        refine wpAnyK_takeTo 9 (some 36) (undef) [10, 11, 12, 13, 14, 15] rfl rfl (by kernel_rfl) (by kernel_rfl) (by kernel_rfl) (by kernel_rfl) (fun _ _ _ h => h) hS (Or.inr ⟨rfl, rfl⟩) ?_
        simp only [Act.put, List.setIfInBounds_toArray, List.set_cons_zero, List.set_cons_succ]
        refine wpAnyK_takeTo 10 (some 37) (undef) [11, 12, 13, 14, 15] rfl rfl (by kernel_rfl) (by kernel_rfl) (by kernel_rfl) (by kernel_rfl) (fun _ _ _ h => h) hS (Or.inr ⟨rfl, rfl⟩) ?_
        simp only [Act.put, List.setIfInBounds_toArray, List.set_cons_zero, List.set_cons_succ]
        refine wpAnyK_takeTo 11 (some 38) (undef) [12, 13, 14, 15] rfl rfl (by kernel_rfl) (by kernel_rfl) (by kernel_rfl) (by kernel_rfl) (fun _ _ _ h => h) hS (Or.inr ⟨rfl, rfl⟩) ?_
        simp only [Act.put, List.setIfInBounds_toArray, List.set_cons_zero, List.set_cons_succ]
        refine wpAnyK_takeTo 12 (some 39) (undef) [13, 14, 15] rfl rfl (by kernel_rfl) (by kernel_rfl) (by kernel_rfl) (by kernel_rfl) (fun _ _ _ h => h) hS (Or.inr ⟨rfl, rfl⟩) ?_
        simp only [Act.put, List.setIfInBounds_toArray, List.set_cons_zero, List.set_cons_succ]
        refine wpAnyK_takeTo 13 (some 40) (undef) [14, 15] rfl rfl (by kernel_rfl) (by kernel_rfl) (by kernel_rfl) (by kernel_rfl) (fun _ _ _ h => h) hS (Or.inr ⟨rfl, rfl⟩) ?_
        simp only [Act.put, List.setIfInBounds_toArray, List.set_cons_zero, List.set_cons_succ]
        refine wpAnyK_takeTo 14 (some 41) (undef) [15] rfl rfl (by kernel_rfl) (by kernel_rfl) (by kernel_rfl) (by kernel_rfl) (fun _ _ _ h => h) hS (Or.inr ⟨rfl, rfl⟩) ?_
        simp only [Act.put, List.setIfInBounds_toArray, List.set_cons_zero, List.set_cons_succ]
        refine wpAnyK_takeTo 15 (some 42) ((.bool false)) [] rfl rfl (by kernel_rfl) (by kernel_rfl) (by kernel_rfl) (by kernel_rfl) (fun _ _ _ h => h) hS (Or.inl ⟨rfl, fun w1 hw1 => by cases hw1; go_simp⟩) ?_
        simp only [Act.put, List.setIfInBounds_toArray, List.set_cons_zero, List.set_cons_succ]
        refine wpAnyK_done (by kernel_rfl) ?_ _
        go_wp2
        go_roundw
        case rel => exact ⟨k + 1, by go_num, by omega, ⟨X9, HK.out E X9 k ⟨et, (j : Int), eb⟩ V9 HE.out HEK.out HSK.out HMV.out, HX9.out⟩, HFV9.out⟩
        case measure => simp [intOf]; omega
    · obtain rfl : k = n := by omega
      go_wp2
      go_end0
      refine ⟨rfl, E, X, HE.out, by rw [← HN.out]; exact HIK.out, (HF1.out.trans HF.out).mono ?_⟩
      rintro q hq (h | h | h)
      · exact h.elim
      · exact h
      · have := HF1.out.size; have := HNN.out; omega
end Go.Proofs.YtlapifncplbcnaaGreat
