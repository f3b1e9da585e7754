/- RitreePlays: the walk. -/
import Derived.Test.YtanfbfmpppfbhaaKo
import Derived.Test.YtanfbfmpppfbhaaKp
import Derived.Test.YtanfbfmpppfbhaaKa
import Derived.Test.YtanfbfmpppfbhaaIj
namespace Go.Proofs.Ytanfbfmpppfbhaa
open Go.RowKit
set_option maxRecDepth 100000
set_option linter.unusedVariables false
set_option linter.unusedSimpArgs false

def opV (o : OpT) : Value := .agg #[.int .i64 o.kind, .int .i64 o.id, .int .i64 o.lo, .int .i64 o.hi]
/-- What one call leaves: the tree and the document's list hold the same. -/
def StepQ (w : World) (base gt N : Nat) (X : Nat → Prop) (e : Ending) (w' : World) : Prop :=
  ∃ (v' : Value) (L' : List Itm) (X' : Nat → Prop), e = .returned (.tuple #[v', .bool true]) ∧ RT w' base gt (N + 42) L' X' ∧ OwnT w' v' L' ∧ (∀ k, v'.ownBlock = some k → ¬ X' k) ∧ (∀ k, X' k → X k ∨ w.heap.size ≤ k) ∧ Fr w w' X
theorem RT.ids {w : World} {base gt N : Nat} {L : List Itm} {X : Nat → Prop} (h : RT w base gt N L X) : Ids L ∧ L.length ≤ N := by
  obtain ⟨gm, fb, tb, dF, dT, c1, c2, h1, h2, h3, h4, h5, h6, h7, h8, h9⟩ := h
  exact ⟨h7.1, by omega⟩
/-- A block of four cells. -/
def Four (w : World) (g : Nat) (o : OpT) : Prop := w.rangeAt g 0 o.cells
theorem Four.fr {w w' : World} {g : Nat} {o : OpT} {X : Nat → Prop} (h : Four w g o) (hf : Fr w w' X) (hx : ¬ X g) : Four w' g o := rangeAt_fr h hf hx
theorem Four.cells {w : World} {g : Nat} {o : OpT} (h : Four w g o) : w.cell? ⟨g, 0, none⟩ = some (.int .i64 o.kind) ∧ w.cell? ⟨g, 1, none⟩ = some (.int .i64 o.id) ∧ w.cell? ⟨g, 2, none⟩ = some (.int .i64 o.lo) ∧ w.cell? ⟨g, 3, none⟩ = some (.int .i64 o.hi) :=
  ⟨h 0 _ rfl, h 1 _ rfl, h 2 _ rfl, h 3 _ rfl⟩
theorem four_new (w : World) (o : OpT) : Four (w.alloc (.cells #[.int .i64 o.kind, .int .i64 o.id, .int .i64 o.lo, .int .i64 o.hi] 42)) w.heap.size o := by
  intro j v hv
  rw [cell_of_row _ _ _ _ _ _ (heap_alloc_new w _), Nat.zero_add]
  simpa [OpT.cells] using hv
set_option maxHeartbeats 16000000 in
theorem step_any {w : World} {base gt N : Nat} {L : List Itm} {X : Nat → Prop} {v : Value} (h : RT w base gt N L X) (hv : OwnT w v L) (hd : ∀ k, v.ownBlock = some k → ¬ X k) (kind id lo hi : Int) (hid : In64 id) (hN : N ≤ 1073741824) (hb : base ≤ w.heap.size) :
    Calls Try.prog 16 #[.pointer (some ⟨gt, 0, none⟩), v, .agg #[.int .i64 kind, .int .i64 id, .int .i64 lo, .int .i64 hi]] w (StepQ w base gt N X) := by
  obtain ⟨Q, hQ⟩ : ∃ Q, Q = StepQ w base gt N X := ⟨_, rfl⟩
  rw [← hQ]
  have HQ := hide hQ
  obtain ⟨g, hg⟩ : ∃ g, g = w.heap.size := ⟨_, rfl⟩
  obtain ⟨w1, hw1⟩ : ∃ w1, w1 = w.alloc (.cells #[.int .i64 kind, .int .i64 id, .int .i64 lo, .int .i64 hi] 42) := ⟨_, rfl⟩
  have f1 : Fr w w1 (fun _ => False) := by rw [hw1]; exact Fr.alloc w _ _
  have HB1 : Hid (Four w1 g ⟨kind, id, lo, hi⟩) := hide (by rw [hw1, hg]; exact four_new w ⟨kind, id, lo, hi⟩)
  have HXL := hide h.lt
  have HGX : Hid (¬ X g) := hide (fun hx => by have := (h.lt g hx).2; omega)
  have HRT := hide (h.fr f1 (fun _ _ h => h))
  have HOV := hide (hv.fr f1 (fun _ _ h => h))
  have HIDS := hide h.ids
  have HF1 := hide f1
  have HD := hide hd
  have HW := hide hw1
  have HG := hide hg
  have HID := hide hid
  have HN := hide hN
  have HB := hide (Nat.le_trans hb f1.size)
  have hlw : ∀ k, v.ownBlock = some k → k < w1.heap.size := fun k hk => Nat.lt_of_lt_of_le (hv.lt k hk).2 f1.size
  have HLW := hide hlw
  clear h hv hd f1 hw1 hg hid hN hb hQ hlw
  obtain ⟨c0, c1, c2, c3⟩ := HB1.out.cells
  simp only [] at c0 c1 c2 c3
  go_enter Try.func16, Try.ntmps16
  by_cases hk0 : kind = 0
  · subst hk0
    have HA := hide (radd_any HOV.out id lo hi (by have := HIDS.out.2; have := HN.out; omega))
    go_wp2_with (rw [← HW.out, ← HG.out]; clear HW)
    refine HA.out.mono ?_
    rintro e w2 ⟨f2, hcase⟩
    have HB2 := hide (HB1.out.fr f2 (fun h => h))
    have HRT2 := hide (HRT.out.fr f2 (fun _ _ h => h))
    have HF2 := hide ((HF1.out.trans f2).mono (Y := fun _ => False) (by simp))
    have HOV2 := hide (HOV.out.fr f2 (fun _ _ h => h))
    have HADD := hide (add_any HRT2.out id lo hi HID.out (by have := HN.out; omega) (Nat.le_trans HB.out f2.size))
    have HSZ := hide f2.size
    clear c0 c1 c2 c3 HA
    obtain ⟨c0, c1, c2, c3⟩ := HB2.out.cells
    simp only [] at c0 c1 c2 c3
    rcases hcase with ⟨r, rfl⟩ | ⟨r, hex, rfl⟩ | ⟨r, hno, v', rfl, o2, q2⟩
    · have HR := hide r
      clear f2 r
      go_wp2_with fail
      refine HADD.out.mono ?_
      rintro e w3 (⟨_, rfl, f3⟩ | ⟨r', _⟩ | ⟨r', _⟩)
      · have HRES : Hid (Q (.returned (.tuple #[v, .bool true])) w3) := hide (by
          rw [HQ.out]
          exact ⟨v, L, X, rfl, (HRT2.out.fr f3 (fun _ _ h => h)).mono (by omega), HOV2.out.fr f3 (fun _ _ h => h), HD.out, fun k hk => .inl hk, (HF2.out.trans f3).mono (by simp)⟩)
        clear f3
        go_wp2
        first | exact HRES.out | (go_ret2; exact HRES.out)
      · rw [HR.out] at r'; cases r'
      · rw [HR.out] at r'; cases r'
    · have HR := hide r
      have HEX := hide hex
      clear f2 r hex
      go_wp2_with fail
      refine HADD.out.mono ?_
      rintro e w3 (⟨r', _⟩ | ⟨_, _, rfl, f3⟩ | ⟨_, hno, _⟩)
      · rw [HR.out] at r'; cases r'
      · have HRES : Hid (Q (.returned (.tuple #[v, .bool true])) w3) := hide (by
          rw [HQ.out]
          exact ⟨v, L, X, rfl, (HRT2.out.fr f3 (fun _ _ h => h)).mono (by omega), HOV2.out.fr f3 (fun _ _ h => h), HD.out, fun k hk => .inl hk, (HF2.out.trans f3).mono (by simp)⟩)
        clear f3
        go_wp2
        first | exact HRES.out | (go_ret2; exact HRES.out)
      · obtain ⟨q, hq, e⟩ := HEX.out
        exact absurd e (hno q hq)
    · have HR := hide r
      have HNO := hide hno
      have HO2 := hide o2
      have HQ2 := hide q2
      have HLT2 : Hid (∀ k, v'.ownBlock = some k → k < w2.heap.size) := hide (fun k hk => (o2.lt k hk).2)
      clear f2 r hno o2 q2
      go_wp2_with fail
      refine HADD.out.mono ?_
      rintro e w3 (⟨r', _⟩ | ⟨_, ⟨q, hq, e'⟩, _⟩ | ⟨_, _, rfl, ⟨X', r3, x3⟩, f3⟩)
      · rw [HR.out] at r'; cases r'
      · exact absurd e' (HNO.out q hq)
      · have HVX : Hid (∀ k, v'.ownBlock = some k → ¬ X k) := hide (fun k hk h => by have h1 := HQ2.out k hk; have h2 := (HXL.out k h).2; have h3 := HF1.out.size; omega)
        have HRES : Hid (Q (.returned (.tuple #[v', .bool true])) w3) := hide (by
          rw [HQ.out]
          refine ⟨v', _, X', rfl, r3.mono (by omega), HO2.out.fr f3 HVX.out, fun k hk h => ?_, fun k hk => ?_, (HF2.out.trans f3).mono (fun k _ h => by rcases h with h | h; exact h.elim; exact h)⟩
          · rcases x3 k h with h | h
            · exact HVX.out k hk h
            · have := HLT2.out k hk; omega
          · rcases x3 k hk with h | h
            · exact .inl h
            · exact .inr (by have := HF2.out.size; omega))
        clear f3 r3 x3
        go_wp2
        first | exact HRES.out | (go_ret2; exact HRES.out)
  · have hk0b : (kind == 0) = false := by simpa using hk0
    by_cases hk1 : kind = 1
    · subst hk1
      have HA := hide (refcut_any HOV.out HIDS.out.1 id (by have := HIDS.out.2; have := HN.out; omega))
      go_wp2_with (rw [← HW.out, ← HG.out]; clear HW)
      refine HA.out.mono ?_
      rintro e w2 ⟨f2, hcase⟩
      have HB2 := hide (HB1.out.fr f2 (fun h => h))
      have HRT2 := hide (HRT.out.fr f2 (fun _ _ h => h))
      have HF2 := hide ((HF1.out.trans f2).mono (Y := fun _ => False) (by simp))
      have HOV2 := hide (HOV.out.fr f2 (fun _ _ h => h))
      have HADD := hide (rcut_any HRT2.out id HID.out (by have := HN.out; omega) (Nat.le_trans HB.out f2.size))
      clear c0 c1 c2 c3 HA
      obtain ⟨c0, c1, c2, c3⟩ := HB2.out.cells
      simp only [] at c0 c1 c2 c3
      rcases hcase with ⟨hno, rfl⟩ | ⟨hex, v', rfl, o2, q2⟩
      · have HNO := hide hno
        clear f2 hno
        go_wp2_with fail
        refine HADD.out.mono ?_
        rintro e w3 (⟨_, rfl, f3⟩ | ⟨⟨q, hq, e'⟩, _⟩)
        · have HRES : Hid (Q (.returned (.tuple #[v, .bool true])) w3) := hide (by
            rw [HQ.out]
            exact ⟨v, L, X, rfl, (HRT2.out.fr f3 (fun _ _ h => h)).mono (by omega), HOV2.out.fr f3 (fun _ _ h => h), HD.out, fun k hk => .inl hk, (HF2.out.trans f3).mono (by simp)⟩)
          clear f3
          go_wp2
          first | exact HRES.out | (go_ret2; exact HRES.out)
        · exact absurd e' (HNO.out q hq)
      · have HEX := hide hex
        have HO2 := hide o2
        have HQ2 := hide q2
        have HLT2 : Hid (∀ k, v'.ownBlock = some k → k < w2.heap.size) := hide (fun k hk => (o2.lt k hk).2)
        clear f2 hex o2 q2
        go_wp2_with fail
        refine HADD.out.mono ?_
        rintro e w3 (⟨hno, _⟩ | ⟨_, rfl, ⟨X', r3, x3⟩, f3⟩)
        · obtain ⟨q, hq, e'⟩ := HEX.out
          exact absurd e' (hno q hq)
        · have HVX : Hid (∀ k, v'.ownBlock = some k → ¬ X k) := hide (fun k hk h => by have h1 := HQ2.out k hk; have h2 := (HXL.out k h).2; have h3 := HF1.out.size; omega)
          have HRES : Hid (Q (.returned (.tuple #[v', .bool true])) w3) := hide (by
            rw [HQ.out]
            refine ⟨v', _, X', rfl, r3.mono (by omega), HO2.out.fr f3 HVX.out, fun k hk h => ?_, fun k hk => ?_, (HF2.out.trans f3).mono (fun k _ h => by rcases h with h | h; exact h.elim; exact h)⟩
            · rcases x3 k h with h | h
              · exact HVX.out k hk h
              · have := HLT2.out k hk; omega
            · rcases x3 k hk with h | h
              · exact .inl h
              · exact .inr (by have := HF2.out.size; omega))
          clear f3 r3 x3
          go_wp2
          first | exact HRES.out | (go_ret2; exact HRES.out)
    · have hk1b : (kind == 1) = false := by simpa using hk1
      by_cases hk2 : kind = 2
      · subst hk2
        have HA := hide (roverlap_any HRT.out lo hi (by have := HN.out; omega) HB.out)
        go_wp2_with (rw [← HW.out, ← HG.out]; clear HW)
        refine HA.out.mono ?_
        rintro e w2 ⟨v2, A2, rfl, o2, ov2, no2, q2, r2, f2⟩
        have HB2 := hide (HB1.out.fr f2 HGX.out)
        have HOV2 := hide (HOV.out.fr f2 HD.out)
        have HF2 := hide ((HF1.out.trans f2).mono (Y := X) (fun k _ h => by rcases h with h | h; exact h.elim; exact h))
        have HRT2 := hide r2
        have HO2 := hide o2
        have HE2 := hide (And.intro ov2 no2)
        have HFL := hide (reflap_any HOV2.out lo hi (by have := HIDS.out.2; have := HN.out; omega))
        obtain ⟨cp, hcp⟩ : ∃ cp, cp = codeP ⟨lo, hi⟩ := ⟨_, rfl⟩
        rw [← hcp]
        have HCP := hide hcp
        clear c0 c1 c2 c3 HA o2 ov2 no2 q2 r2 f2 hcp
        obtain ⟨c0, c1, c2, c3⟩ := HB2.out.cells
        simp only [] at c0 c1 c2 c3
        go_wp2_with fail
        refine HFL.out.mono ?_
        rintro e w3 ⟨v3, A3, rfl, o3, ov3, no3, f3⟩
        rw [← HCP.out]
        have he : A2 = A3 := by
          by_cases hr : rightB ⟨lo, hi⟩ = true
          · rw [ov3 hr]; exact (HE2.out.1 hr).ext (hits_ova HIDS.out.1)
          · have hr' : rightB ⟨lo, hi⟩ = false := by simpa using hr
            rw [HE2.out.2 hr', no3 hr']
        subst he
        have HLG := hide (longs_same (HO2.out.fr f3 (fun _ _ h => h)) o3)
        have HF3 := hide ((HF2.out.trans f3).mono (Y := X) (fun k _ h => by rcases h with h | h; exact h; exact h.elim))
        have HRT3 := hide (HRT2.out.fr f3 (fun _ _ h => h))
        have HOV3 := hide (HOV2.out.fr f3 (fun _ _ h => h))
        clear f3 o3 ov3 no3 HFL c0 c1 c2 c3
        have hcc : (cp == cp) = true := by simp
        go_wp2_with fail
        refine HLG.out.mono ?_
        rintro e w4 ⟨rfl, f4⟩
        have HRES : Hid (Q (.returned (.tuple #[v, .bool true])) w4) := hide (by
          rw [HQ.out]
          exact ⟨v, L, X, rfl, HRT3.out.fr f4 (fun _ _ h => h), HOV3.out.fr f4 (fun _ _ h => h), HD.out, fun k hk => .inl hk, (HF3.out.trans f4).mono (fun k _ h => by rcases h with h | h; exact h; exact h.elim)⟩)
        clear f4
        go_wp2
        first | exact HRES.out | (go_ret2; exact HRES.out)
      · have hk2b : (kind == 2) = false := by simpa using hk2
        by_cases hk3 : kind = 3
        · subst hk3
          have HA := hide (stab_any HRT.out lo (by have := HN.out; omega) HB.out)
          go_wp2_with (rw [← HW.out, ← HG.out]; clear HW)
          refine HA.out.mono ?_
          rintro e w2 (⟨hi2, v2, A2, rfl, o2, ov2, no2, q2, r2, f2⟩ | ⟨hi2, rfl, f2⟩)
          · have hlo := of_decide_eq_true hi2
            obtain ⟨hlo0, hlo1⟩ := hlo
            have hr := inst_right hi2
            rw [codeP_ok _ hr]
            have HB2 := hide (HB1.out.fr f2 HGX.out)
            have HOV2 := hide (HOV.out.fr f2 HD.out)
            have HF2 := hide ((HF1.out.trans f2).mono (Y := X) (fun k _ h => by rcases h with h | h; exact h.elim; exact h))
            have HRT2 := hide r2
            have HO2 := hide o2
            have HE2 := hide (ov2 hr)
            have HR := hide hr
            have HFL := hide (reflap_any HOV2.out lo (lo + 1) (by have := HIDS.out.2; have := HN.out; omega))
            clear c0 c1 c2 c3 HA o2 ov2 no2 q2 r2 f2 hi2 hr
            obtain ⟨c0, c1, c2, c3⟩ := HB2.out.cells
            simp only [] at c0 c1 c2 c3
            go_wp2_with fail
            refine HFL.out.mono ?_
            rintro e w3 ⟨v3, A3, rfl, o3, ov3, no3, f3⟩
            have he : A2 = A3 := by rw [ov3 HR.out]; exact HE2.out.ext (hits_ova HIDS.out.1)
            subst he
            have HLG := hide (longs_same (HO2.out.fr f3 (fun _ _ h => h)) o3)
            have HF3 := hide ((HF2.out.trans f3).mono (Y := X) (fun k _ h => by rcases h with h | h; exact h; exact h.elim))
            have HRT3 := hide (HRT2.out.fr f3 (fun _ _ h => h))
            have HOV3 := hide (HOV2.out.fr f3 (fun _ _ h => h))
            clear f3 o3 ov3 no3 HFL c0 c1 c2 c3
            go_wp2_with fail
            refine HLG.out.mono ?_
            rintro e w4 ⟨rfl, f4⟩
            have HRES : Hid (Q (.returned (.tuple #[v, .bool true])) w4) := hide (by
              rw [HQ.out]
              exact ⟨v, L, X, rfl, HRT3.out.fr f4 (fun _ _ h => h), HOV3.out.fr f4 (fun _ _ h => h), HD.out, fun k hk => .inl hk, (HF3.out.trans f4).mono (fun k _ h => by rcases h with h | h; exact h; exact h.elim)⟩)
            clear f4
            go_wp2
            first | exact HRES.out | (go_ret2; exact HRES.out)
          · have hlo := of_decide_eq_false hi2
            have HB2 := hide (HB1.out.fr f2 (fun h => h))
            have HRES : Hid (Q (.returned (.tuple #[v, .bool true])) w2) := hide (by
              rw [HQ.out]
              exact ⟨v, L, X, rfl, (HRT.out.fr f2 (fun _ _ h => h)).mono (by omega), HOV.out.fr f2 (fun _ _ h => h), HD.out, fun k hk => .inl hk, (HF1.out.trans f2).mono (by simp)⟩)
            clear c0 c1 c2 c3 HA f2 hi2
            obtain ⟨c0, c1, c2, c3⟩ := HB2.out.cells
            simp only [] at c0 c1 c2 c3
            by_cases hl0 : lo < 0
            · clear hlo
              go_wp2
              first | exact HRES.out | (go_ret2; exact HRES.out)
            · have hl1 : 1099511627776 ≤ lo := by omega
              clear hlo
              go_wp2
              first | exact HRES.out | (go_ret2; exact HRES.out)
        · have hk3b : (kind == 3) = false := by simpa using hk3
          have HRES : Hid (Q (.returned (.tuple #[v, .bool true])) w1) := hide (by
            rw [HQ.out]
            exact ⟨v, L, X, rfl, HRT.out.mono (by omega), HOV.out, HD.out, fun k hk => .inl hk, HF1.out.mono (fun _ _ h => h.elim)⟩)
          go_wp2_with (rw [← HW.out, ← HG.out]; clear HW)
          first | exact HRES.out | (go_ret2; exact HRES.out)
set_option maxHeartbeats 16000000 in
theorem plays_walk (a : Option Addr) (n c : Nat) (O : List OpT) (hO : O.length = n) (hn : n ≤ 1048576) (w : World) (hP : OpsIn (fun k => k < w.heap.size) w a O) (hI : ∀ o ∈ O, In64 o.id) : Calls Try.prog 4 #[.slice a n c] w fun e w' => e = .returned (.bool true) ∧ Fr w w' (fun _ => False) := by
  have HAW := hide (awake_any w)
  have HO := hide hO
  have HPI := hide hP
  have HI := hide hI
  clear hO hP hI
  go_enter Try.func4, Try.ntmps4
  go_wp2_with fail
  refine HAW.out.mono ?_
  rintro e w1 ⟨rfl, f1⟩
  have HF1 := hide f1
  have HNW := hide (rnew_any w1 w1.heap.size (Nat.le_refl _))
  clear f1 HAW
  go_wp2_with fail
  refine HNW.out.mono ?_
  rintro e w2 ⟨gt, X0, rfl, rt0, x0, f2⟩
  have HRT0 := hide rt0
  have HF2 := hide f2
  clear rt0 x0 f2 HNW
  go_wp2
  go_loopw [4, 13] (fun v i wr => ∃ (k : Nat) (L : List Itm) (X : Nat → Prop), i = .int .i64 (k : Int) ∧ k ≤ n ∧ RT wr w1.heap.size gt (42 * k) L X ∧ OwnT wr v L ∧ (∀ q, v.ownBlock = some q → ¬ X q) ∧ Fr w1 wr (fun _ => False)) (fun _ i _ => n - (intOf i).toNat)
  case atStart => exact ⟨0, [], X0, rfl, Nat.zero_le _, HRT0.out, OwnT.nil _, (fun q hq => by cases hq), HF2.out⟩
  case round =>
    rename World => w8
    obtain ⟨k, L, X, rfl, hk, hrt, hv, hd, hf⟩ := hrel
    have HRT := hide hrt
    have HV := hide hv
    have HD := hide hd
    have HF := hide hf
    clear hrt hv hd hf
    by_cases hlt : k < n
    · obtain ⟨o, ho⟩ : ∃ o, O[k]? = some o := ⟨_, List.getElem?_eq_getElem (by rw [HO.out]; exact hlt)⟩
      obtain ⟨ga, off, rfl, hga, hr⟩ := (HPI.out.fr HF1.out (fun _ _ h => h)).fr HF.out (fun _ _ h => h) k o ho
      have c0 : w8.cell? ⟨ga, off + k * 4, none⟩ = some (.int .i64 o.kind) := hr 0 _ rfl
      have c1 : w8.cell? ⟨ga, off + k * 4 + 1, none⟩ = some (.int .i64 o.id) := hr 1 _ rfl
      have c2 : w8.cell? ⟨ga, off + k * 4 + 2, none⟩ = some (.int .i64 o.lo) := hr 2 _ rfl
      have c3 : w8.cell? ⟨ga, off + k * 4 + 3, none⟩ = some (.int .i64 o.hi) := hr 3 _ rfl
      have HID := hide (HI.out o (List.mem_of_getElem? ho))
      clear hr ho
      go_wp2_with fail
      have A8 := Fr.alloc w8 (.cells #[.int .i64 o.kind, .int .i64 o.id, .int .i64 o.lo, .int .i64 o.hi] 42) (fun _ => False)
      have HXL := hide HRT.out.lt
      refine (step_any (HRT.out.fr A8 (fun _ _ h => h)) (HV.out.fr A8 (fun _ _ h => h)) HD.out o.kind o.id o.lo o.hi HID.out (by omega) (Nat.le_trans HF.out.size A8.size)).mono ?_
      rintro e w9 ⟨v', L', X', rfl, r9, o9, d9, x9, f9⟩
      have HR9 := hide r9
      have HO9 := hide o9
      have HD9 := hide d9
      have HF9 : Hid (Fr w1 w9 (fun _ => False)) := hide (((HF.out.trans A8).trans f9).mono (fun q hq h => by
        rcases h with (h | h) | h
        · exact h
        · exact h
        · have := (HXL.out q h).1; omega))
      obtain ⟨av, kv, rfl, _⟩ := o9.shape
      obtain ⟨m, hm⟩ : ∃ m, m = L'.length := ⟨_, rfl⟩
      have HLN : Hid (Calls Try.prog 17 #[.pointer (some ⟨gt, 0, none⟩)] w9 fun e w' => e = .returned (.int .i64 (m : Int)) ∧ w' = w9) := hide (by rw [hm]; exact rlen_any r9)
      rw [← hm] at HD9 HO9 ⊢
      have HM := hide hm
      clear r9 o9 d9 x9 f9 A8 c0 c1 c2 c3 hm HXL HRT HV HD HF
      go_wp2_with fail
      refine HLN.out.mono ?_
      rintro e w10 ⟨rfl, hV⟩
      obtain rfl := hV.symm
      clear hV HLN
      go_wp2
      go_roundw
      case rel => exact ⟨k + 1, L', X', by go_num, by omega, HR9.out.mono (by omega), HO9.out, HD9.out, HF9.out⟩
      case measure => simp [intOf]; omega
    · obtain rfl : k = n := by omega
      have HFF : Hid (Fr w w8 (fun _ => False)) := hide ((HF1.out.trans HF.out).mono (by simp))
      go_wp2
      go_ret
      exact ⟨rfl, HFF.out⟩
end Go.Proofs.Ytanfbfmpppfbhaa
