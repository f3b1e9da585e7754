/- awake. -/
import Derived.Test.YtiooacaplajidaaMn
namespace Go.Proofs.Ytiooacaplajidaa
open Go.RowKit
set_option maxRecDepth 100000
set_option linter.unusedVariables false
set_option linter.unusedSimpArgs false

/-- Where nobody is active, nobody is told. -/
def ActiveNone : Prop := ∀ (w : World) (base mb N D : Nat) (s : St), MG w base mb N D s → (∀ u, s.act u = none) → Calls Try.prog 14 #[.pointer (some ⟨mb, 0, none⟩)] w fun e w' => (∃ a c, e = .returned (.slice a 0 c)) ∧ Fr w w' (fun _ => False)
theorem strs_lit (P : Nat → Prop) (w : World) (L : List ByteArray) (g : Nat) (hg : w.heap.size = g) (hP : P g) (hL : ∀ x ∈ L, x.size ≤ maxLen) : StrsIn P (w.alloc (.cells (L.map Value.string).toArray 9)) (some ⟨g, 0, none⟩) L := by
  subst hg
  intro i x hx
  refine ⟨w.heap.size, 0, rfl, hP, ?_, hL x (List.mem_of_getElem? hx)⟩
  rw [cell_of_row _ _ _ _ _ _ (heap_alloc_new w _), Nat.zero_add]
  simp [hx]
theorem addK_mem {ks : Ks} {L : List ByteArray} {k : ByteArray} (h : k ∈ L) : addK ks L k = some () := by unfold addK; rw [if_pos h]
theorem Empty.not_of {x : Tx} {k : ByteArray} (hk : k.size ≤ maxLen) (h : x.ks k = some ()) : ¬ Empty x := fun he => by rw [he k hk] at h; cases h
theorem chk_go {s : St} {t : Int} {x : Tx} (hx : s.act t = some x) (he : ¬ Empty x) (hc : ¬ Crosses s x) (hf : nextP s < 1099511627776) : chk s t = (nextP s, 0) := by
  unfold chk; rw [hx]; simp only []; rw [if_neg he, if_neg hc, if_neg (by omega)]
theorem chk_no {s : St} {t : Int} {x : Tx} (hx : s.act t = some x) (he : ¬ Empty x) (hc : Crosses s x) : chk s t = (0, 120) := by
  unfold chk; rw [hx]; simp only []; rw [if_neg he, if_pos hc]
theorem chk_none {s : St} {t : Int} (hx : s.act t = none) : chk s t = (0, 70) := by unfold chk; rw [hx]
theorem chk_empty {s : St} {t : Int} {x : Tx} (hx : s.act t = some x) (he : Empty x) : chk s t = (x.snap, 0) := by
  unfold chk; rw [hx]; simp only []; rw [if_pos he]
abbrev bA : ByteArray := ⟨#[97]⟩
abbrev bB : ByteArray := ⟨#[98]⟩
theorem bA_le : bA.size ≤ maxLen := by decide
theorem bB_le : bB.size ≤ maxLen := by decide
set_option maxHeartbeats 8000000 in
theorem awake_any (HAC : Hid ActiveNone) (w : World) : Calls Try.prog 8 #[] w fun e w' => e = .returned (.bool true) ∧ Fr w w' (fun _ => False) := by
  go_enter Try.func8, Try.ntmps8
  go_wp2_with fail
  refine (mg_new w 5 0).mono ?_
  rintro e W1 ⟨rfl, h1, f1⟩
  obtain ⟨mb, hmb⟩ : ∃ mb, w.heap.size + 2 = mb := ⟨_, rfl⟩
  obtain ⟨bs, hbs⟩ : ∃ bs, w.heap.size = bs := ⟨_, rfl⟩
  rw [hmb] at h1 ⊢
  rw [hbs] at h1
  rw [show lastP 5 = 5 by decide, show begunP 0 = 0 by decide] at h1
  have H1 := hide h1
  have F1 := hide (f1.mono (Y := fun k => bs ≤ k) (fun _ _ h => h.elim))
  have HBS := hide hbs
  clear h1 f1 hmb hbs
  go_wp2_with fail
  refine (mg_begin H1.out (by show (0 : Int) ≤ _; omega) (by omega)).mono ?_
  rintro e W2 ⟨rfl, ⟨kb, pb, h2⟩, f2⟩
  rw [show (s0 5 0 bs).begun + 1 = 1 from rfl] at h2 ⊢
  rw [show (s0 5 0 bs).last = 5 from rfl]
  have H2 := hide h2
  have F2 := hide ((F1.out.trans f2).mono (Y := fun k => bs ≤ k) (fun _ _ h => h.elim id id))
  clear h2 f2 H1 F1
  go_wp2_with fail
  refine (mg_begin H2.out (by show (1 : Int) ≤ _; omega) (by omega)).mono ?_
  rintro e W3 ⟨rfl, ⟨kb', pb', h3⟩, f3⟩
  rw [show (begS (s0 5 0 bs) 1 kb pb).begun + 1 = 2 from rfl] at h3 ⊢
  rw [show (begS (s0 5 0 bs) 1 kb pb).last = 5 from rfl]
  have F3 := hide ((F2.out.trans f3).mono (Y := fun k => bs ≤ k) (fun _ _ h => h.elim id id))
  obtain ⟨S, hS⟩ : ∃ S, begS (begS (s0 5 0 bs) 1 kb pb) 2 kb' pb' = S := ⟨_, rfl⟩
  have a1 : S.act 1 = some ⟨5, pb, kb, fun _ => none, 0⟩ := by rw [← hS]; rfl
  have a2 : S.act 2 = some ⟨5, pb', kb', fun _ => none, 0⟩ := by rw [← hS]; rfl
  have a3 : ∀ u, u ≠ 1 → u ≠ 2 → S.act u = none := by intro u h1 h2; rw [← hS]; simp [begS, s0, h1, h2]
  have e1 : S.st = fun _ => none := by rw [← hS]; rfl
  have e2 : S.now = 5 ∧ S.last = 5 ∧ S.begun = 2 := by rw [← hS]; exact ⟨rfl, rfl, rfl⟩
  rw [hS] at h3
  have H3 := hide h3
  have A1 := hide a1
  have A2 := hide a2
  have A3 := hide a3
  have E1 := hide e1
  have E2 := hide e2
  clear h3 f3 H2 F2 hS a1 a2 a3 e1 e2
  go_wp2_with fail
  have FA := Fr.alloc W3 (.cells #[.string ⟨#[97]⟩, .string ⟨#[98]⟩] 9) (fun _ => False)
  refine (mg_write H3.out FA 1 ⟨by decide, by decide⟩ _ 2 2 [bA, bB] (strs_lit _ W3 [bA, bB] _ rfl (.inr (Nat.le_refl _)) (by simp; decide)) rfl (fun x hx => by rw [A1.out] at hx; cases hx; show 0 + 2 < _; omega)).mono ?_
  rintro e W4 hw
  obtain ⟨x, hx, rfl, h4, f4⟩ : ∃ x, S.act 1 = some x ∧ e = .returned (.int .i64 0) ∧ MG W4 bs mb 2 0 (setT S 1 (some { x with ks := addK x.ks [bA, bB], kn := x.kn + 2 })) ∧ Fr (W3.alloc (.cells #[.string ⟨#[97]⟩, .string ⟨#[98]⟩] 9)) W4 (fun k => bs ≤ k) := by
    rcases hw with ⟨h, _⟩ | h
    · rw [A1.out] at h; cases h
    · exact h
  rw [A1.out] at hx
  cases hx
  have H4 := hide h4
  have F4 := hide (((F3.out.trans FA).trans f4).mono (Y := fun k => bs ≤ k) (fun _ _ h => by rcases h with (h | h) | h; exact h; exact h.elim; exact h))
  obtain ⟨X1, hX1⟩ : ∃ X : Tx, ({ snap := 5, pb := pb, kb := kb, ks := addK (fun _ => none) [bA, bB], kn := 0 + 2 } : Tx) = X := ⟨_, rfl⟩
  have HX1 := hide hX1
  rw [show ({ ({ snap := 5, pb := pb, kb := kb, ks := fun _ => none, kn := 0 } : Tx) with ks := addK (fun _ => none) [bA, bB], kn := 0 + 2 } : Tx) = X1 from hX1] at H4
  clear hw h4 f4 FA F3 H3 hX1
  go_wp2_with fail
  have FA := Fr.alloc W4 (.cells #[.string ⟨#[98]⟩] 9) (fun _ => False)
  have q2 : (setT S 1 (some X1)).act 2 = some ⟨5, pb', kb', fun _ => none, 0⟩ := by simp [setT, A2.out]
  have Q2 := hide q2
  refine (mg_write H4.out FA 2 ⟨by decide, by decide⟩ _ 1 1 [bB] (strs_lit _ W4 [bB] _ rfl (.inr (Nat.le_refl _)) (by simp; decide)) rfl (fun x hx => by rw [Q2.out] at hx; cases hx; show 0 + 1 < _; omega)).mono ?_
  rintro e W5 hw
  obtain ⟨x, hx, rfl, h5, f5⟩ : ∃ x, (setT S 1 (some X1)).act 2 = some x ∧ e = .returned (.int .i64 0) ∧ MG W5 bs mb 2 0 (setT (setT S 1 (some X1)) 2 (some { x with ks := addK x.ks [bB], kn := x.kn + 1 })) ∧ Fr (W4.alloc (.cells #[.string ⟨#[98]⟩] 9)) W5 (fun k => bs ≤ k) := by
    rcases hw with ⟨h, _⟩ | h
    · rw [Q2.out] at h; cases h
    · exact h
  rw [Q2.out] at hx
  cases hx
  have H5 := hide h5
  have F5 := hide (((F4.out.trans FA).trans f5).mono (Y := fun k => bs ≤ k) (fun _ _ h => by rcases h with (h | h) | h; exact h; exact h.elim; exact h))
  obtain ⟨X2, hX2⟩ : ∃ X : Tx, ({ snap := 5, pb := pb', kb := kb', ks := addK (fun _ => none) [bB], kn := 0 + 1 } : Tx) = X := ⟨_, rfl⟩
  have HX2 := hide hX2
  rw [show ({ ({ snap := 5, pb := pb', kb := kb', ks := fun _ => none, kn := 0 } : Tx) with ks := addK (fun _ => none) [bB], kn := 0 + 1 } : Tx) = X2 from hX2] at H5
  clear hw h5 f5 FA F4 H4 hX2 q2
  obtain ⟨T, hT⟩ : ∃ T, setT (setT S 1 (some X1)) 2 (some X2) = T := ⟨_, rfl⟩
  have t1 : T.act 1 = some X1 := by rw [← hT]; simp [setT]
  have t2 : T.act 2 = some X2 := by rw [← hT]; simp [setT]
  have t3 : ∀ u, u ≠ 1 → u ≠ 2 → T.act u = none := by intro u h1 h2; rw [← hT]; simp [setT, h1, h2, A3.out u h1 h2]
  have t4 : T.st = fun _ => none := by rw [← hT]; exact E1.out
  have t5 : T.now = 5 ∧ T.last = 5 ∧ T.begun = 2 := by rw [← hT]; exact E2.out
  rw [hT] at H5
  have T1 := hide t1
  have T2 := hide t2
  have T3 := hide t3
  have T4 := hide t4
  have T5 := hide t5
  have n6 : nextP T = 6 := by unfold nextP; rw [t5.1, t5.2.1]; decide
  have x1 : X1.snap = 5 ∧ X1.ks bA = some () ∧ X1.ks bB = some () ∧ X1.kn = 2 := by rw [← HX1.out]; exact ⟨rfl, addK_mem (ks := fun _ => none) (L := [bA, bB]) (k := bA) (List.Mem.head _), addK_mem (ks := fun _ => none) (L := [bA, bB]) (k := bB) (List.Mem.tail _ (List.Mem.head _)), rfl⟩
  have x2 : X2.snap = 5 ∧ X2.ks bB = some () ∧ X2.kn = 1 := by rw [← HX2.out]; exact ⟨rfl, addK_mem (ks := fun _ => none) (L := [bB]) (k := bB) (List.Mem.head _), rfl⟩
  have cr1 : ¬ Crosses T X1 := by
    rintro ⟨k, _, _, h⟩
    rw [t4, x1.1] at h
    simp at h
  have c1 : chk T 1 = (6, 0) := by rw [← n6]; exact chk_go t1 (Empty.not_of bA_le x1.2.1) cr1 (by rw [n6]; decide)
  have C1 := hide c1
  have N6 := hide n6
  have XX1 := hide x1
  have XX2 := hide x2
  have CR1 := hide cr1
  clear hT t1 t2 t3 t4 t5 n6 x1 x2 cr1 c1 A1 A2 A3 E1 E2 Q2 HX1 HX2
  go_wp2_with fail
  refine (commit_any H5.out 1 ⟨by decide, by decide⟩ (by rw [T5.out.2.2]; decide) (fun x hx => by rw [T1.out] at hx; cases hx; rw [XX1.out.2.2.2]; omega) (by omega)).mono ?_
  rintro e W6 ⟨rfl, f6, hp⟩
  rw [C1.out] at hp ⊢
  obtain ⟨x, s1, s', hx, h6, hE, hor⟩ : ∃ x s1 s', T.act 1 = some x ∧ MG W6 bs mb (2 + x.kn) (0 + 1) s' ∧ Ended s1 1 s' ∧ ((s1 = T ∧ ((6, 0) = ((0, 120) : Int × Int) ∨ (Empty x ∧ (6, 0) = (x.snap, (0 : Int))))) ∨ (¬ Empty x ∧ ¬ Crosses T x ∧ (6, 0) = (nextP T, (0 : Int)) ∧ nextP T < 1099511627776 ∧ ∃ dv, s1 = keepS (lastS T (nextP T)) 1 x (nextP T) dv)) := by
    rcases hp with ⟨h, _⟩ | h
    · exact absurd rfl h
    · exact h
  rw [T1.out] at hx
  cases hx
  obtain ⟨dv, hs1⟩ : ∃ dv, s1 = keepS (lastS T 6) 1 X1 6 dv := by
    rcases hor with ⟨_, h | ⟨h, _⟩⟩ | ⟨_, _, _, _, dv, h⟩
    · have := (Prod.mk.inj h).1; omega
    · exact absurd h (Empty.not_of bA_le XX1.out.2.1)
    · exact ⟨dv, by rw [h, N6.out]⟩
  have b1 : s'.act 2 = some X2 := by rw [hE.act, hs1]; simp [setT, keepS, lastS, T2.out]
  have b2 : ∀ u, u ≠ 2 → s'.act u = none := by
    intro u hu
    rw [hE.act, hs1]
    by_cases h1 : u = 1
    · simp [setT, h1]
    · simp [setT, h1, keepS, lastS, T3.out u h1 hu]
  have b3 : s'.last = 6 ∧ s'.begun = 2 := by rw [hE.last, hE.begun, hs1]; exact ⟨rfl, T5.out.2.2⟩
  have b4 : s'.st bB = some 6 := by
    have h1 : s1.st bB = some 6 := by rw [hs1]; show keepF T.st X1.ks 6 bB = some 6; unfold keepF; rw [if_pos XX1.out.2.2.1]
    rcases hE.st bB bB_le with h | ⟨_, v, hv, _, hall⟩
    · rw [h, h1]
    · rw [h1] at hv
      cases hv
      have := hall 2 X2 b1
      rw [XX2.out.1] at this
      omega
  have c2 : chk s' 2 = (0, 120) := chk_no b1 (Empty.not_of bB_le XX2.out.2.1) ⟨bB, bB_le, XX2.out.2.1, by rw [b4, XX2.out.1]; decide⟩
  have H6 := hide h6
  have F6 := hide ((F5.out.trans f6).mono (Y := fun k => bs ≤ k) (fun _ _ h => h.elim id id))
  have B1 := hide b1
  have B2 := hide b2
  have B3 := hide b3
  have C2 := hide c2
  clear h6 f6 hp hE hor hs1 b1 b2 b3 b4 c2 F5 H5
  go_wp2_with fail
  refine (commit_any H6.out 2 ⟨by decide, by decide⟩ (by rw [B3.out.2]; decide) (fun x hx => by rw [B1.out] at hx; cases hx; rw [XX1.out.2.2.2, XX2.out.2.2]; omega) (by omega)).mono ?_
  rintro e W7 ⟨rfl, f7, hp⟩
  rw [C2.out] at hp ⊢
  obtain ⟨s2, h7, g1, g2⟩ : ∃ s2, MG W7 bs mb (2 + X1.kn + X2.kn) (0 + 1 + 1) s2 ∧ s2.last = 6 ∧ ∀ u, s2.act u = none := by
    rcases hp with ⟨_, h, _⟩ | ⟨x, s1, s2, hx, h7, hE, hor⟩
    · exact absurd rfl h
    · rw [B1.out] at hx
      cases hx
      rcases hor with ⟨rfl, _⟩ | ⟨_, h, _⟩
      · refine ⟨s2, h7, by rw [hE.last]; exact B3.out.1, fun u => ?_⟩
        rw [hE.act]
        by_cases hu : u = 2
        · simp [setT, hu]
        · simp [setT, hu, B2.out u hu]
      · exfalso
        have hcr : Crosses s' X2 := by
          have := C2.out
          by_cases hh : Crosses s' X2
          · exact hh
          · unfold chk at this
            rw [B1.out] at this
            simp only [] at this
            rw [if_neg (Empty.not_of bB_le XX2.out.2.1), if_neg hh] at this
            split at this <;> (have := (Prod.mk.inj this).2; omega)
        exact h hcr
  have H7 := hide h7
  have F7 := hide ((F6.out.trans f7).mono (Y := fun k => bs ≤ k) (fun _ _ h => h.elim id id))
  have G1 := hide g1
  have HAE := hide (HAC.out W7 bs mb _ _ s2 h7 g2)
  have HLA := hide (mg_last h7)
  rw [g1] at HLA
  clear h7 f7 hp g1 g2 F6 H6
  go_wp2_with fail
  refine HLA.out.mono ?_
  rintro e W8 ⟨rfl, hw8⟩
  rw [hw8]
  clear hw8
  go_wp2_with fail
  refine HAE.out.mono ?_
  rintro e W9 ⟨⟨aa, cc, rfl⟩, f9⟩
  have F9 := hide ((F7.out.trans f9).mono (Y := fun k => bs ≤ k) (fun _ _ h => h.elim id False.elim))
  clear f9 HAE HLA
  go_wp2
  go_ret
  exact ⟨rfl, F9.out.mono (fun k hk h => by have := HBS.out; have h : bs ≤ k := h; omega)⟩
end Go.Proofs.Ytiooacaplajidaa
