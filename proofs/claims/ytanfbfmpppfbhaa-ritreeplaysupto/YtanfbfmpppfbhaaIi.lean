/- Stab; awake. -/
import Derived.Test.YtanfbfmpppfbhaaHh
namespace Go.Proofs.Ytanfbfmpppfbhaa
open Go.RowKit
set_option maxRecDepth 100000
set_option linter.unusedVariables false
set_option linter.unusedSimpArgs false

/-- Is it an instant? -/
def instB (x : Int) : Bool := decide (0 ≤ x ∧ x < 1099511627776)
def StabQ (w : World) (base gt N : Nat) (L : List Itm) (X : Nat → Prop) (x : Int) (e : Ending) (w' : World) : Prop :=
  (instB x = true ∧ OverQ w base gt N L X ⟨x, x + 1⟩ e w') ∨ (instB x = false ∧ e = .returned (.tuple #[.slice none 0 0, .int .i64 1]) ∧ Fr w w' (fun _ => False))
theorem OverQ.from {w w1 w' : World} {base gt N : Nat} {L : List Itm} {X : Nat → Prop} {q : Per} {e : Ending} (h : OverQ w1 base gt N L X q e w') (hf : Fr w w1 (fun _ => False)) : OverQ w base gt N L X q e w' := by
  obtain ⟨v, A, h1, h2, h3, h4, h5, h6, h7⟩ := h
  exact ⟨v, A, h1, h2, h3, h4, fun k hk => Nat.le_trans hf.size (h5 k hk), h6, (hf.trans h7).mono (fun k _ h => by rcases h with h | h; exact h.elim; exact h)⟩
set_option maxHeartbeats 2000000 in
theorem stab_any {w : World} {base gt N : Nat} {L : List Itm} {X : Nat → Prop} (h : RT w base gt N L X) (x : Int) (hN : N ≤ 17179869184) (hbw : base ≤ w.heap.size) :
    Calls Try.prog 22 #[.pointer (some ⟨gt, 0, none⟩), .int .i64 x] w (StabQ w base gt N L X x) := by
  obtain ⟨Q, hQ⟩ : ∃ Q, Q = StabQ w base gt N L X x := ⟨_, rfl⟩
  rw [← hQ]
  have HQQ := hide hQ
  have HC := hide (has_any ⟨0, 1099511627776⟩ x w)
  have HRT := hide h
  have HN := hide hN
  have HBW := hide hbw
  clear h hQ hN hbw
  unfold perV at HC
  go_enter Try.func22, Try.ntmps22
  go_wp2_with fail
  refine HC.out.mono ?_
  rintro e w2 ⟨rfl, f2⟩
  have HF := hide f2
  have HIB : Hid (hasB ⟨0, 1099511627776⟩ x = instB x) := hide rfl
  clear f2 HC
  by_cases hi : instB x = true
  · have hx : 0 ≤ x ∧ x < 1099511627776 := of_decide_eq_true hi
    rw [HIB.out, hi]
    have hx0 := hx.1
    have hx1 := hx.2
    have HI := hide hi
    have HOV := hide (roverlap_any (HRT.out.fr HF.out (fun _ _ h => h)) x (x + 1) HN.out (Nat.le_trans HBW.out HF.out.size))
    clear hi hx
    go_wp2_with fail
    refine HOV.out.mono ?_
    rintro e w3 hq
    obtain ⟨v, A, he, r2, r3, r4, r5, r6, r7⟩ := hq.from HF.out
    subst he
    have HRES : Hid (Q (.returned (.tuple #[v, .int .i64 (codeP ⟨x, x + 1⟩)])) w3) := hide (by
      rw [HQQ.out]
      exact .inl ⟨HI.out, v, A, rfl, r2, r3, r4, r5, r6, r7⟩)
    clear hq r2 r3 r4 r5 r6 r7 HOV
    go_wp2
    first | exact HRES.out | (go_ret2; exact HRES.out)
  · have hi' : instB x = false := by simpa using hi
    rw [HIB.out, hi']
    have HRES : Hid (Q (.returned (.tuple #[.slice none 0 0, .int .i64 1])) w2) := hide (by
      rw [HQQ.out]
      exact .inr ⟨hi', rfl, HF.out⟩)
    clear hi hi'
    go_wp2
    first | exact HRES.out | (go_ret2; exact HRES.out)
theorem ova7 : OvA ([] ++ [⟨7, 3, 9⟩]) ⟨8, 20⟩ [7] := by
  refine ⟨by simp, fun i => ⟨fun h => ?_, fun ⟨p, hp, h, _⟩ => ?_⟩⟩
  · have e : i = 7 := by simpa using h
    exact ⟨⟨7, 3, 9⟩, by simp, e.symm, by decide, by decide⟩
  · have : p = ⟨7, 3, 9⟩ := by simpa using hp
    subst this
    simp [← h]
set_option maxHeartbeats 4000000 in
theorem awake_any (w : World) : Calls Try.prog 9 #[] w fun e w' => e = .returned (.bool true) ∧ Fr w w' (fun _ => False) := by
  have HN := hide (rnew_any w w.heap.size (Nat.le_refl _))
  go_enter Try.func9, Try.ntmps9
  go_wp2_with fail
  refine HN.out.mono ?_
  intro e w1 hq
  obtain ⟨gt, X, rfl, r1, rx, rf⟩ := hq
  have HRT1 := hide r1
  have HX1 := hide rx
  have HF1 := hide rf
  have HA := hide (add_any r1 7 3 9 ⟨by omega, by omega⟩ (by omega) rf.size)
  clear r1 rx rf HN
  go_wp2_with fail
  refine HA.out.mono ?_
  intro e w2 hq
  rcases hq with ⟨h, _⟩ | ⟨_, ⟨q, hq, _⟩, _⟩ | ⟨_, _, rfl, ⟨X2, r2, x2⟩, f2⟩
  · exact absurd h (by decide)
  · cases hq
  · have HRT2 := hide r2
    have HX2 : Hid (∀ k, X2 k → w.heap.size ≤ k) := hide (fun k hk => by
      rcases x2 k hk with h | h
      · exact HX1.out k h
      · have := HF1.out.size; omega)
    have HF2 : Hid (Fr w w2 (fun _ => False)) := hide ((HF1.out.trans f2).mono (fun k hk h => by rcases h with h | h; exact h; (have := HX1.out k h; omega)))
    have HLN := hide (rlen_any r2)
    clear r2 x2 f2 HA HRT1 HX1 HF1
    go_wp2_with fail
    refine HLN.out.mono ?_
    rintro e w3 ⟨rfl, hV⟩
    obtain rfl := hV.symm
    have HOV := hide (roverlap_any HRT2.out 8 20 (by omega) HF2.out.size)
    clear hV HLN
    go_wp2_with fail
    refine HOV.out.mono ?_
    rintro e w4 ⟨v4, A4, rfl, o4, ov4, _, hge4, r4, f4⟩
    have hc8 : codeP ⟨8, 20⟩ = 0 := by decide
    have hA4 : A4 = [7] := (ov4 (by decide)).ext ova7
    subst hA4
    rw [hc8]
    obtain ⟨a4, k4, rfl, _⟩ := o4.shape
    obtain ⟨g4, rfl, cv⟩ := o4.at 0 7 rfl
    have HF4 : Hid (Fr w w4 (fun _ => False)) := hide ((HF2.out.trans f4).mono (fun k hk h => by rcases h with h | h; exact h; (have := HX2.out k h; omega)))
    have HB4 : Hid (¬ X2 g4) := hide (fun h => by
      have h1 := (HRT2.out.lt g4 h).2
      have h2 := o4.2
      have := hge4 g4 rfl
      omega)
    have HO4 := hide o4
    have HST := hide (stab_any r4 9 (by omega) HF4.out.size)
    clear ov4 r4 f4 o4 HOV HRT2 hc8
    go_wp2_with fail
    refine HST.out.mono ?_
    rintro e w5 (⟨_, v5, A5, rfl, o5, ov5, _, _, r5, f5⟩ | ⟨h, _⟩)
    · have hc9 : codeP ⟨9, 9 + 1⟩ = 0 := by decide
      have hA5 : A5 = [] := (ov5 (by decide)).ext ⟨by simp, fun i => ⟨fun h => by simp at h, fun ⟨p, hp, h, h1, h2⟩ => by
        have : p = ⟨7, 3, 9⟩ := by simpa using hp
        subst this
        exact absurd h2 (by decide)⟩⟩
      subst hA5
      rw [hc9]
      obtain ⟨a5, k5, rfl, _⟩ := o5.shape
      have HF5 : Hid (Fr w w5 (fun _ => False)) := hide ((HF4.out.trans f5).mono (fun k hk h => by rcases h with h | h; exact h; (have := HX2.out k h; omega)))
      have HO5 := hide (HO4.out.fr f5 (fun k hk h => HB4.out (by cases hk; exact h)))
      have HFK := hide (fork_any ⟨3, 9⟩ w5)
      have HV : Hid (forkV ⟨3, 9⟩ = 8 ∧ codeP ⟨3, 9⟩ = 0) := hide ⟨by decide, by decide⟩
      clear ov5 r5 f5 o5 HST hc9 HB4 HX2 cv
      unfold perV at HFK
      go_wp2_with fail
      refine HFK.out.mono ?_
      rintro e w6 ⟨rfl, f6⟩
      rw [HV.out.1, HV.out.2]
      obtain ⟨_, e4, cv⟩ := (HO5.out.fr f6 (fun _ _ h => h)).at 0 7 rfl
      cases e4
      have HF6 := hide ((HF5.out.trans f6).mono (Y := fun _ => False) (by simp))
      clear f6 HFK
      go_wp2
      go_ret
      exact ⟨rfl, HF6.out⟩
    · exact absurd h (by decide)
end Go.Proofs.Ytanfbfmpppfbhaa
