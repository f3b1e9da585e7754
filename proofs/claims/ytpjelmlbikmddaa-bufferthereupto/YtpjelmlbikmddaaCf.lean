/- An insertion sort of frames: they stand in another order. -/
import Derived.Test.YtpjelmlbikmddaaCe
namespace Go.Proofs.Ytpjelmlbikmddaa
open Go.RowKit
set_option maxRecDepth 100000
set_option linter.unusedVariables false

theorem wpAnyK_weak {P : Program} {ops : Array Oper} {Q : Exit → Act → World → Prop} {md : Region.Mode} {S : World → Prop} {hold : Nat → Bool} : ∀ (fuel : Nat) (listed : Array Bool) (a : Act) (w : World), wpAnyK P md ops Q hold S fuel listed a w → wpAnyK P md ops Q (fun _ => true) (fun _ => True) fuel listed a w
  | 0, _, _, _, H => H
  | fuel + 1, _, _, _, H => ⟨H.1, fun i hi => wpOp_mono (fun a' w' h' => ⟨fun _ => trivial, wpAnyK_weak fuel _ a' w' h'.2⟩) (H.2 i hi)⟩

/-- A row of pointers to frames. -/
structure PtsAt (w : World) (gp gf : Nat) (Ps : List Nat) : Prop where
  at_ : ∀ j x, Ps[j]? = some x → w.cell? ⟨gp, j, none⟩ = some (.pointer (some ⟨gf, x * 261, none⟩))
  z : ∀ j, w.frozen? ⟨gp, j, none⟩ = false
  lt : gp < w.heap.size
theorem PtsAt.fr {w w' : World} {X : Nat → Prop} {gp gf : Nat} {Ps : List Nat} (h : PtsAt w gp gf Ps) (hf : Fr w w' X) (hx : ¬ X gp) : PtsAt w' gp gf Ps :=
  ⟨fun j x hj => by rw [World.cell?_of_block (w := w) (hf.block gp h.lt hx)]; exact h.at_ j x hj, fun j => by have := h.z j; unfold World.frozen? at *; rw [hf.block gp h.lt hx]; exact this, Nat.lt_of_lt_of_le h.lt hf.size⟩
theorem PtsAt.set {w : World} {gp gf : Nat} {Ps : List Nat} (h : PtsAt w gp gf Ps) (t : Nat) {y : Nat} : PtsAt (w.setCell ⟨gp, t, none⟩ (.pointer (some ⟨gf, y * 261, none⟩))) gp gf (Ps.set t y) := by
  refine ⟨fun j x hj => ?_, fun j => by rw [World.frozen?_setCell]; exact h.z j, by rw [World.size_setCell]; exact h.lt⟩
  by_cases hjt : t = j
  · subst hjt
    rw [List.getElem?_set] at hj
    simp only [if_true] at hj
    split at hj
    · rename_i hl
      cases hj
      exact World.cell?_setCell_same _ _ _ (h.at_ t _ (List.getElem?_eq_getElem hl))
    · cases hj
  · rw [List.getElem?_set_ne hjt] at hj
    rw [World.cell?_setCell_other _ _ _ _ (fun hh => by injection hh; omega)]
    exact h.at_ j x hj
theorem perm_swap {Q : List Nat} {t x y : Nat} (h0 : 0 < t) (hx : Q[t]? = some x) (hy : Q[t - 1]? = some y) : ((Q.set t y).set (t - 1) x).Perm Q := by
  obtain ⟨a1, a2⟩ := List.getElem?_eq_some_iff.1 hx
  obtain ⟨b1, b2⟩ := List.getElem?_eq_some_iff.1 hy
  have := @List.set_set_perm _ Q _ _ a1 b1
  rw [a2, b2] at this
  exact this

set_option maxHeartbeats 4000000 in
theorem insertion_any {w : World} {gp gf c : Nat} {L : List Frm} {Ps : List Nat} (hP : PtsAt w gp gf Ps) (hF : FrsAt w gf L) (hin : ∀ x ∈ Ps, x < L.length) (hne : gf ≠ gp) (hm : Ps.length ≤ 12) :
    Calls Try.prog 65 #[.slice (some ⟨gp, 0, none⟩) Ps.length c, .int .i64 0, .int .i64 (Ps.length : Int), .func (.func 50) #[] #[]] w fun e w' => e = .returned (.tuple #[]) ∧ ∃ Q : List Nat, Q.Perm Ps ∧ PtsAt w' gp gf Q ∧ Fr w w' (fun k => k = gp) := by
  obtain ⟨n, hn⟩ : ∃ n, n = Ps.length := ⟨_, rfl⟩
  rw [← hn] at hm ⊢
  have HN := hide hn
  have HP0 := hide hP
  have HFR := hide (show ∀ W, Fr w W (fun q => q = gp) → FrsAt W gf L from fun W hW => hF.fr hW hne)
  have HIN := hide (show ∀ x ∈ Ps, ∃ X, L[x]? = some X from fun x hx => ⟨_, List.getElem?_eq_getElem (hin x hx)⟩)
  clear hP hF hin hn
  go_enter Try.func65, Try.ntmps65
  go_wp2
  go_loopw [8] (fun i wr => ∃ (k : Nat) (Q : List Nat), i = .int .i64 (k : Int) ∧ 1 ≤ k ∧ k ≤ 13 ∧ Q.Perm Ps ∧ PtsAt wr gp gf Q ∧ Fr w wr (fun q => q = gp)) (fun i _ => 13 - (intOf i).toNat)
  case atStart => exact ⟨1, Ps, rfl, by omega, by omega, List.Perm.refl _, HP0.out, Fr.refl _ _⟩
  case round =>
    rename World => W0
    obtain ⟨k, Q0, rfl, hk1, hk13, hq, hp, hf⟩ := hrel
    have HQ0 := hide hq
    have HP00 := hide hp
    have HFW0 := hide hf
    clear hq hp hf
    by_cases hlt : k < n
    · go_wp2_with fail
      go_loopw [9] (fun j wr => ∃ (t : Nat) (Q : List Nat), j = .int .i64 (t : Int) ∧ t ≤ k ∧ Q.Perm Ps ∧ PtsAt wr gp gf Q ∧ Fr w wr (fun q => q = gp)) (fun j _ => (intOf j).toNat)
      case atStart => exact ⟨k, Q0, rfl, by omega, HQ0.out, HP00.out, HFW0.out⟩
      case round =>
        rename World => W
        obtain ⟨t, Q, rfl, htk, hq, hp, hf⟩ := hrel
        have HQ := hide hq
        have HP := hide hp
        have HFW := hide hf
        clear hq hp hf HQ0 HP00 HFW0
        rcases Nat.eq_zero_or_pos t with h0 | h0
        · subst h0
          go_wp2_with fail
          refine wp_region_K (fun _ => true) (fun _ => True) (by kernel_rfl) ?_
          have hS : (fun _ : World => True) W.drew := trivial
          have FD := Fr.drew W (fun _ => False)
          have HP1 := hide (HP.out.fr FD (fun h => h))
          have HFW1 := hide ((HFW.out.trans FD).mono (Y := fun q => q = gp) (by intro q _ h; rcases h with h | h; exact h; exact h.elim))
          generalize W.drew = W1 at *
          refine wpAnyK_takeTo 0 (some 18) (.int .i64 0) [] rfl rfl (by kernel_rfl) (by kernel_rfl) (by kernel_rfl) (by kernel_rfl) (fun _ _ _ h => h) hS (Or.inl ⟨rfl, fun w1 hw1 => by go_simp⟩) ?_
          simp only [Act.put, List.setIfInBounds_toArray, List.set_cons_zero, List.set_cons_succ]
          refine wpAnyK_takeTo 1 (some 19) (.int .i64 0) [] rfl rfl (by kernel_rfl) (by kernel_rfl) (by kernel_rfl) (by kernel_rfl) (fun _ _ _ h => h) hS (Or.inl ⟨rfl, fun w1 hw1 => by go_simp⟩) ?_
          simp only [Act.put, List.setIfInBounds_toArray, List.set_cons_zero, List.set_cons_succ]
          refine wpAnyK_takeTo 2 (some 20) (.bool false) [] rfl rfl (by kernel_rfl) (by kernel_rfl) (by kernel_rfl) (by kernel_rfl) (fun _ _ _ h => h) hS (Or.inl ⟨rfl, fun w1 hw1 => by go_simp⟩) ?_
          simp only [Act.put, List.setIfInBounds_toArray, List.set_cons_zero, List.set_cons_succ]
          refine wpAnyK_takeTo 3 (some 21) (.bool false) [] rfl rfl (by kernel_rfl) (by kernel_rfl) (by kernel_rfl) (by kernel_rfl) (fun _ _ _ h => h) hS (Or.inl ⟨rfl, fun w1 hw1 => by go_simp⟩) ?_
          simp only [Act.put, List.setIfInBounds_toArray, List.set_cons_zero, List.set_cons_succ]
          refine wpAnyK_takeTo 4 (some 22) (undef) [] rfl rfl (by kernel_rfl) (by kernel_rfl) (by kernel_rfl) (by kernel_rfl) (fun _ _ _ h => h) hS (Or.inr ⟨rfl, rfl⟩) ?_
          simp only [Act.put, List.setIfInBounds_toArray, List.set_cons_zero, List.set_cons_succ]
          refine wpAnyK_takeTo 5 (some 23) (undef) [] rfl rfl (by kernel_rfl) (by kernel_rfl) (by kernel_rfl) (by kernel_rfl) (fun _ _ _ h => h) hS (Or.inr ⟨rfl, rfl⟩) ?_
          simp only [Act.put, List.setIfInBounds_toArray, List.set_cons_zero, List.set_cons_succ]
          refine wpAnyK_takeTo 6 (some 24) (undef) [] rfl rfl (by kernel_rfl) (by kernel_rfl) (by kernel_rfl) (by kernel_rfl) (fun _ _ _ h => h) hS (Or.inr ⟨rfl, rfl⟩) ?_
          simp only [Act.put, List.setIfInBounds_toArray, List.set_cons_zero, List.set_cons_succ]
          refine wpAnyK_takeTo 7 (some 25) (undef) [] rfl rfl (by kernel_rfl) (by kernel_rfl) (by kernel_rfl) (by kernel_rfl) (fun _ _ _ h => h) hS (Or.inr ⟨rfl, rfl⟩) ?_
          simp only [Act.put, List.setIfInBounds_toArray, List.set_cons_zero, List.set_cons_succ]
          refine wpAnyK_takeTo 8 (some 26) (undef) [] rfl rfl (by kernel_rfl) (by kernel_rfl) (by kernel_rfl) (by kernel_rfl) (fun _ _ _ h => h) hS (Or.inr ⟨rfl, rfl⟩) ?_
          simp only [Act.put, List.setIfInBounds_toArray, List.set_cons_zero, List.set_cons_succ]
          refine wpAnyK_takeTo 9 (some 27) (undef) [] rfl rfl (by kernel_rfl) (by kernel_rfl) (by kernel_rfl) (by kernel_rfl) (fun _ _ _ h => h) hS (Or.inr ⟨rfl, rfl⟩) ?_
          simp only [Act.put, List.setIfInBounds_toArray, List.set_cons_zero, List.set_cons_succ]
          refine wpAnyK_takeTo 10 (some 28) (undef) [] rfl rfl (by kernel_rfl) (by kernel_rfl) (by kernel_rfl) (by kernel_rfl) (fun _ _ _ h => h) hS (Or.inr ⟨rfl, rfl⟩) ?_
          simp only [Act.put, List.setIfInBounds_toArray, List.set_cons_zero, List.set_cons_succ]
          refine wpAnyK_takeTo 11 (some 29) (undef) [] rfl rfl (by kernel_rfl) (by kernel_rfl) (by kernel_rfl) (by kernel_rfl) (fun _ _ _ h => h) hS (Or.inr ⟨rfl, rfl⟩) ?_
          simp only [Act.put, List.setIfInBounds_toArray, List.set_cons_zero, List.set_cons_succ]
          refine wpAnyK_takeTo 12 (some 30) (undef) [] rfl rfl (by kernel_rfl) (by kernel_rfl) (by kernel_rfl) (by kernel_rfl) (fun _ _ _ h => h) hS (Or.inr ⟨rfl, rfl⟩) ?_
          simp only [Act.put, List.setIfInBounds_toArray, List.set_cons_zero, List.set_cons_succ]
          refine wpAnyK_takeTo 13 (some 31) (undef) [] rfl rfl (by kernel_rfl) (by kernel_rfl) (by kernel_rfl) (by kernel_rfl) (fun _ _ _ h => h) hS (Or.inr ⟨rfl, rfl⟩) ?_
          simp only [Act.put, List.setIfInBounds_toArray, List.set_cons_zero, List.set_cons_succ]
          refine wpAnyK_takeTo 14 (some 32) (undef) [] rfl rfl (by kernel_rfl) (by kernel_rfl) (by kernel_rfl) (by kernel_rfl) (fun _ _ _ h => h) hS (Or.inr ⟨rfl, rfl⟩) ?_
          simp only [Act.put, List.setIfInBounds_toArray, List.set_cons_zero, List.set_cons_succ]
          refine wpAnyK_takeTo 15 (some 33) (undef) [] rfl rfl (by kernel_rfl) (by kernel_rfl) (by kernel_rfl) (by kernel_rfl) (fun _ _ _ h => h) hS (Or.inr ⟨rfl, rfl⟩) ?_
          simp only [Act.put, List.setIfInBounds_toArray, List.set_cons_zero, List.set_cons_succ]
          refine wpAnyK_takeTo 16 (some 34) (.bool false) [] rfl rfl (by kernel_rfl) (by kernel_rfl) (by kernel_rfl) (by kernel_rfl) (fun _ _ _ h => h) hS (Or.inl ⟨rfl, fun w1 hw1 => by go_simp⟩) ?_
          simp only [Act.put, List.setIfInBounds_toArray, List.set_cons_zero, List.set_cons_succ]
          refine wpAnyK_done (by kernel_rfl) ?_ _
          clear hS FD
          go_wp2
          exact ⟨⟨k + 1, Q, by simp, by omega, by omega, HQ.out, HP1.out, HFW1.out⟩, by simp [intOf]; omega⟩
        · have hql : Q.length = n := by rw [HQ.out.length_eq, HN.out]
          obtain ⟨x, hx⟩ : ∃ x, Q[t]? = some x := ⟨_, List.getElem?_eq_getElem (by omega)⟩
          obtain ⟨y, hy⟩ : ∃ y, Q[t - 1]? = some y := ⟨_, List.getElem?_eq_getElem (by omega)⟩
          obtain ⟨X0, hX0⟩ := HIN.out x (HQ.out.mem_iff.1 (List.mem_of_getElem? hx))
          obtain ⟨Y0, hY0⟩ := HIN.out y (HQ.out.mem_iff.1 (List.mem_of_getElem? hy))
          have HCx := hide (HP.out.at_ t x hx)
          have HCy := hide (HP.out.at_ (t - 1) y hy)
          have HQx := hide hx
          have HQy := hide hy
          have HX0 := hide hX0
          have HY0 := hide hY0
          have htn : t < n := by omega
          have wk : IntKind.i64.wrap ((t : Int) - 1) = (t : Int) - 1 := by rw [IntKind.wrap_i64]; omega
          clear hql hx hy hX0 hY0
          go_wp2_with fail
          refine wp_region_K (fun _ => true) (fun V : World => V.cell? ⟨gp, t, none⟩ = some (.pointer (some ⟨gf, x * 261, none⟩)) ∧ V.cell? ⟨gp, t - 1, none⟩ = some (.pointer (some ⟨gf, y * 261, none⟩))) (by kernel_rfl) ?_
          have FD := Fr.drew W (fun _ => False)
          have hS : (fun V : World => V.cell? ⟨gp, t, none⟩ = some (.pointer (some ⟨gf, x * 261, none⟩)) ∧ V.cell? ⟨gp, t - 1, none⟩ = some (.pointer (some ⟨gf, y * 261, none⟩))) W.drew := ⟨HCx.out, HCy.out⟩
          have HP1 := hide (HP.out.fr FD (fun h => h))
          have HFW1 := hide ((HFW.out.trans FD).mono (Y := fun q => q = gp) (by intro q _ h; rcases h with h | h; exact h; exact h.elim))
          generalize W.drew = W1 at *
          refine wpAnyK_takeTo 0 (some 18) (.int .i64 (t : Int)) [] rfl rfl (by kernel_rfl) (by kernel_rfl) (by kernel_rfl) (by kernel_rfl) (fun _ _ _ h => h) hS (Or.inl ⟨rfl, fun w1 hw1 => by go_simp⟩) ?_
          simp only [Act.put, List.setIfInBounds_toArray, List.set_cons_zero, List.set_cons_succ]
          refine wpAnyK_takeTo 1 (some 19) (.int .i64 0) [] rfl rfl (by kernel_rfl) (by kernel_rfl) (by kernel_rfl) (by kernel_rfl) (fun _ _ _ h => h) hS (Or.inl ⟨rfl, fun w1 hw1 => by go_simp⟩) ?_
          simp only [Act.put, List.setIfInBounds_toArray, List.set_cons_zero, List.set_cons_succ]
          refine wpAnyK_takeTo 2 (some 20) (.bool true) [] rfl rfl (by kernel_rfl) (by kernel_rfl) (by kernel_rfl) (by kernel_rfl) (fun _ _ _ h => h) hS (Or.inl ⟨rfl, fun w1 hw1 => by go_simp⟩) ?_
          simp only [Act.put, List.setIfInBounds_toArray, List.set_cons_zero, List.set_cons_succ]
          refine wpAnyK_takeTo 3 (some 21) (.bool true) [] rfl rfl (by kernel_rfl) (by kernel_rfl) (by kernel_rfl) (by kernel_rfl) (fun _ _ _ h => h) hS (Or.inl ⟨rfl, fun w1 hw1 => by go_simp⟩) ?_
          simp only [Act.put, List.setIfInBounds_toArray, List.set_cons_zero, List.set_cons_succ]
          refine wpAnyK_takeTo 4 (some 22) (.func (.func 50) #[] #[]) [] rfl rfl (by kernel_rfl) (by kernel_rfl) (by kernel_rfl) (by kernel_rfl) (fun _ _ _ h => h) hS (Or.inl ⟨rfl, fun w1 hw1 => by go_simp⟩) ?_
          simp only [Act.put, List.setIfInBounds_toArray, List.set_cons_zero, List.set_cons_succ]
          refine wpAnyK_takeTo 5 (some 23) (.slice (some ⟨gp, 0, none⟩) n c) [] rfl rfl (by kernel_rfl) (by kernel_rfl) (by kernel_rfl) (by kernel_rfl) (fun _ _ _ h => h) hS (Or.inl ⟨rfl, fun w1 hw1 => by go_simp⟩) ?_
          simp only [Act.put, List.setIfInBounds_toArray, List.set_cons_zero, List.set_cons_succ]
          refine wpAnyK_takeTo 6 (some 24) (.int .i64 (t : Int)) [] rfl rfl (by kernel_rfl) (by kernel_rfl) (by kernel_rfl) (by kernel_rfl) (fun _ _ _ h => h) hS (Or.inl ⟨rfl, fun w1 hw1 => by go_simp⟩) ?_
          simp only [Act.put, List.setIfInBounds_toArray, List.set_cons_zero, List.set_cons_succ]
          refine wpAnyK_takeTo 7 (some 25) (.pointer (some ⟨gp, t, none⟩)) [] rfl rfl (by kernel_rfl) (by kernel_rfl) (by kernel_rfl) (by kernel_rfl) (fun _ _ _ h => h) hS (Or.inl ⟨rfl, fun w1 hw1 => by go_simp⟩) ?_
          simp only [Act.put, List.setIfInBounds_toArray, List.set_cons_zero, List.set_cons_succ]
          refine wpAnyK_takeTo 8 (some 26) (.pointer (some ⟨gf, x * 261, none⟩)) [] rfl rfl (by kernel_rfl) (by kernel_rfl) (by kernel_rfl) (by kernel_rfl) (fun _ _ _ h => h) hS (Or.inl ⟨rfl, fun w1 hw1 => by obtain ⟨x1, x2⟩ := hw1; go_simp⟩) ?_
          simp only [Act.put, List.setIfInBounds_toArray, List.set_cons_zero, List.set_cons_succ]
          refine wpAnyK_takeTo 9 (some 27) (.slice (some ⟨gp, 0, none⟩) n c) [] rfl rfl (by kernel_rfl) (by kernel_rfl) (by kernel_rfl) (by kernel_rfl) (fun _ _ _ h => h) hS (Or.inl ⟨rfl, fun w1 hw1 => by go_simp⟩) ?_
          simp only [Act.put, List.setIfInBounds_toArray, List.set_cons_zero, List.set_cons_succ]
          refine wpAnyK_takeTo 10 (some 28) (.int .i64 (t : Int)) [] rfl rfl (by kernel_rfl) (by kernel_rfl) (by kernel_rfl) (by kernel_rfl) (fun _ _ _ h => h) hS (Or.inl ⟨rfl, fun w1 hw1 => by go_simp⟩) ?_
          simp only [Act.put, List.setIfInBounds_toArray, List.set_cons_zero, List.set_cons_succ]
          refine wpAnyK_takeTo 11 (some 29) (.int .i64 ((t : Int) - 1)) [] rfl rfl (by kernel_rfl) (by kernel_rfl) (by kernel_rfl) (by kernel_rfl) (fun _ _ _ h => h) hS (Or.inl ⟨rfl, fun w1 hw1 => by go_simp; first | done | simp only [wk]⟩) ?_
          simp only [Act.put, List.setIfInBounds_toArray, List.set_cons_zero, List.set_cons_succ]
          refine wpAnyK_takeTo 12 (some 30) (.pointer (some ⟨gp, t - 1, none⟩)) [] rfl rfl (by kernel_rfl) (by kernel_rfl) (by kernel_rfl) (by kernel_rfl) (fun _ _ _ h => h) hS (Or.inl ⟨rfl, fun w1 hw1 => by rw [show ((t : Int) - 1) = ((t - 1 : Nat) : Int) by omega]; go_simp; first | done | (intro hb; omega)⟩) ?_
          simp only [Act.put, List.setIfInBounds_toArray, List.set_cons_zero, List.set_cons_succ]
          refine wpAnyK_takeTo 13 (some 31) (.pointer (some ⟨gf, y * 261, none⟩)) [] rfl rfl (by kernel_rfl) (by kernel_rfl) (by kernel_rfl) (by kernel_rfl) (fun _ _ _ h => h) hS (Or.inl ⟨rfl, fun w1 hw1 => by obtain ⟨x1, x2⟩ := hw1; go_simp⟩) ?_
          simp only [Act.put, List.setIfInBounds_toArray, List.set_cons_zero, List.set_cons_succ]
          refine wpAnyK_one (i := 14) (by kernel_rfl) rfl rfl ?_
          refine wp_call_to (some 32) rfl 50 #[.pointer (some ⟨gf, x * 261, none⟩), .pointer (some ⟨gf, y * 261, none⟩)] (by go_simp) (cmp50_any (HFR.out _ HFW1.out x X0 HX0.out) (HFR.out _ HFW1.out y Y0 HY0.out)) ?_
          rintro e W2 ⟨zz, rfl, f2⟩
          have HP2 := hide (HP1.out.fr f2 (fun h => h))
          have HFW2 := hide ((HFW1.out.trans f2).mono (Y := fun q => q = gp) (by intro q _ h; rcases h with h | h; exact h; exact h.elim))
          have hS : (fun V : World => V.cell? ⟨gp, t, none⟩ = some (.pointer (some ⟨gf, x * 261, none⟩)) ∧ V.cell? ⟨gp, t - 1, none⟩ = some (.pointer (some ⟨gf, y * 261, none⟩))) W2 := ⟨HP2.out.at_ t x HQx.out, HP2.out.at_ (t - 1) y HQy.out⟩
          refine ⟨_, rfl, fun _ => hS, ?_⟩
          simp only [Act.put, List.setIfInBounds_toArray, List.set_cons_zero, List.set_cons_succ]
          refine wpAnyK_takeTo 15 (some 33) (.bool (decide (zz < 0))) [] rfl rfl (by kernel_rfl) (by kernel_rfl) (by kernel_rfl) (by kernel_rfl) (fun _ _ _ h => h) hS (Or.inl ⟨rfl, fun w1 hw1 => by go_simp⟩) ?_
          simp only [Act.put, List.setIfInBounds_toArray, List.set_cons_zero, List.set_cons_succ]
          refine wpAnyK_takeTo 16 (some 34) (.bool (decide (zz < 0))) [] rfl rfl (by kernel_rfl) (by kernel_rfl) (by kernel_rfl) (by kernel_rfl) (fun _ _ _ h => h) hS (Or.inl ⟨rfl, fun w1 hw1 => by go_simp⟩) ?_
          simp only [Act.put, List.setIfInBounds_toArray, List.set_cons_zero, List.set_cons_succ]
          refine wpAnyK_done (by kernel_rfl) ?_ _
          clear hS FD f2 HP1 HFW1
          by_cases hz : zz < 0
          · have hd : decide (zz < 0) = true := by simp [hz]
            rw [hd]
            clear hd
            go_wp2_with fail
            refine wp_region_K (fun _ => true) (fun _ => True) (by kernel_rfl) ?_
            have FD := Fr.drew W2 (fun _ => False)
            have HP3 := hide (HP2.out.fr FD (fun h => h))
            have HFW3 := hide ((HFW2.out.trans FD).mono (Y := fun q => q = gp) (by intro q _ h; rcases h with h | h; exact h; exact h.elim))
            have hS0 : (fun _ : World => True) W2.drew := trivial
            generalize W2.drew = W3 at *
            refine wpAnyK_takeTo 2 (some 39) (.slice (some ⟨gp, 0, none⟩) n c) [] rfl rfl (by kernel_rfl) (by kernel_rfl) (by kernel_rfl) (by kernel_rfl) (fun _ _ _ h => h) hS0 (Or.inl ⟨rfl, fun w1 hw1 => by go_simp⟩) ?_
            simp only [Act.put, List.setIfInBounds_toArray, List.set_cons_zero, List.set_cons_succ]
            refine wpAnyK_takeTo 3 (some 40) (.int .i64 (t : Int)) [] rfl rfl (by kernel_rfl) (by kernel_rfl) (by kernel_rfl) (by kernel_rfl) (fun _ _ _ h => h) hS0 (Or.inl ⟨rfl, fun w1 hw1 => by go_simp⟩) ?_
            simp only [Act.put, List.setIfInBounds_toArray, List.set_cons_zero, List.set_cons_succ]
            refine wpAnyK_takeTo 4 (some 41) (.int .i64 ((t : Int) - 1)) [] rfl rfl (by kernel_rfl) (by kernel_rfl) (by kernel_rfl) (by kernel_rfl) (fun _ _ _ h => h) hS0 (Or.inl ⟨rfl, fun w1 hw1 => by go_simp; first | done | simp only [wk]⟩) ?_
            simp only [Act.put, List.setIfInBounds_toArray, List.set_cons_zero, List.set_cons_succ]
            refine wpAnyK_weak (hold := fun q => decide (q < 15)) (S := (fun V : World => V.cell? ⟨gp, t, none⟩ = some (.pointer (some ⟨gf, x * 261, none⟩)) ∧ V.cell? ⟨gp, t - 1, none⟩ = some (.pointer (some ⟨gf, y * 261, none⟩)))) _ _ _ _ ?_
            have hS : (fun V : World => V.cell? ⟨gp, t, none⟩ = some (.pointer (some ⟨gf, x * 261, none⟩)) ∧ V.cell? ⟨gp, t - 1, none⟩ = some (.pointer (some ⟨gf, y * 261, none⟩))) W3 := ⟨HP3.out.at_ t x HQx.out, HP3.out.at_ (t - 1) y HQy.out⟩
            refine wpAnyK_takeTo 0 (some 37) (.slice (some ⟨gp, 0, none⟩) n c) [15, 16, 17] rfl rfl (by kernel_rfl) (by kernel_rfl) (by kernel_rfl) (by kernel_rfl) (fun _ _ _ h => h) hS (Or.inl ⟨rfl, fun w1 hw1 => by go_simp⟩) ?_
            simp only [Act.put, List.setIfInBounds_toArray, List.set_cons_zero, List.set_cons_succ]
            refine wpAnyK_takeTo 1 (some 38) (.int .i64 (t : Int)) [15, 16, 17] rfl rfl (by kernel_rfl) (by kernel_rfl) (by kernel_rfl) (by kernel_rfl) (fun _ _ _ h => h) hS (Or.inl ⟨rfl, fun w1 hw1 => by go_simp⟩) ?_
            simp only [Act.put, List.setIfInBounds_toArray, List.set_cons_zero, List.set_cons_succ]
            refine wpAnyK_takeTo 5 (some 42) (.slice (some ⟨gp, 0, none⟩) n c) [15, 16, 17] rfl rfl (by kernel_rfl) (by kernel_rfl) (by kernel_rfl) (by kernel_rfl) (fun _ _ _ h => h) hS (Or.inl ⟨rfl, fun w1 hw1 => by go_simp⟩) ?_
            simp only [Act.put, List.setIfInBounds_toArray, List.set_cons_zero, List.set_cons_succ]
            refine wpAnyK_takeTo 6 (some 43) (.int .i64 (t : Int)) [15, 16, 17] rfl rfl (by kernel_rfl) (by kernel_rfl) (by kernel_rfl) (by kernel_rfl) (fun _ _ _ h => h) hS (Or.inl ⟨rfl, fun w1 hw1 => by go_simp⟩) ?_
            simp only [Act.put, List.setIfInBounds_toArray, List.set_cons_zero, List.set_cons_succ]
            refine wpAnyK_takeTo 7 (some 44) (.int .i64 ((t : Int) - 1)) [15, 16, 17] rfl rfl (by kernel_rfl) (by kernel_rfl) (by kernel_rfl) (by kernel_rfl) (fun _ _ _ h => h) hS (Or.inl ⟨rfl, fun w1 hw1 => by go_simp; first | done | simp only [wk]⟩) ?_
            simp only [Act.put, List.setIfInBounds_toArray, List.set_cons_zero, List.set_cons_succ]
            refine wpAnyK_takeTo 8 (some 45) (.pointer (some ⟨gp, t - 1, none⟩)) [15, 16, 17] rfl rfl (by kernel_rfl) (by kernel_rfl) (by kernel_rfl) (by kernel_rfl) (fun _ _ _ h => h) hS (Or.inl ⟨rfl, fun w1 hw1 => by rw [show ((t : Int) - 1) = ((t - 1 : Nat) : Int) by omega]; go_simp; first | done | (intro hb; omega)⟩) ?_
            simp only [Act.put, List.setIfInBounds_toArray, List.set_cons_zero, List.set_cons_succ]
            refine wpAnyK_takeTo 9 (some 46) (.pointer (some ⟨gf, y * 261, none⟩)) [15, 16, 17] rfl rfl (by kernel_rfl) (by kernel_rfl) (by kernel_rfl) (by kernel_rfl) (fun _ _ _ h => h) hS (Or.inl ⟨rfl, fun w1 hw1 => by obtain ⟨x1, x2⟩ := hw1; go_simp⟩) ?_
            simp only [Act.put, List.setIfInBounds_toArray, List.set_cons_zero, List.set_cons_succ]
            refine wpAnyK_takeTo 10 (some 47) (.slice (some ⟨gp, 0, none⟩) n c) [12, 13, 15, 16, 17] rfl rfl (by kernel_rfl) (by kernel_rfl) (by kernel_rfl) (by kernel_rfl) (fun _ _ _ h => h) hS (Or.inl ⟨rfl, fun w1 hw1 => by go_simp⟩) ?_
            simp only [Act.put, List.setIfInBounds_toArray, List.set_cons_zero, List.set_cons_succ]
            refine wpAnyK_takeTo 11 (some 48) (.int .i64 (t : Int)) [12, 13, 15, 16, 17] rfl rfl (by kernel_rfl) (by kernel_rfl) (by kernel_rfl) (by kernel_rfl) (fun _ _ _ h => h) hS (Or.inl ⟨rfl, fun w1 hw1 => by go_simp⟩) ?_
            simp only [Act.put, List.setIfInBounds_toArray, List.set_cons_zero, List.set_cons_succ]
            refine wpAnyK_takeTo 12 (some 49) (.pointer (some ⟨gp, t, none⟩)) [13, 15, 16, 17] rfl rfl (by kernel_rfl) (by kernel_rfl) (by kernel_rfl) (by kernel_rfl) (fun _ _ _ h => h) hS (Or.inl ⟨rfl, fun w1 hw1 => by go_simp⟩) ?_
            simp only [Act.put, List.setIfInBounds_toArray, List.set_cons_zero, List.set_cons_succ]
            refine wpAnyK_takeTo 13 (some 50) (.pointer (some ⟨gf, x * 261, none⟩)) [15, 16, 17] rfl rfl (by kernel_rfl) (by kernel_rfl) (by kernel_rfl) (by kernel_rfl) (fun _ _ _ h => h) hS (Or.inl ⟨rfl, fun w1 hw1 => by obtain ⟨x1, x2⟩ := hw1; go_simp⟩) ?_
            simp only [Act.put, List.setIfInBounds_toArray, List.set_cons_zero, List.set_cons_succ]
            refine wpAnyK_takeTo 14 (some 51) (.pointer (some ⟨gp, t, none⟩)) [15, 16, 17] rfl rfl (by kernel_rfl) (by kernel_rfl) (by kernel_rfl) (by kernel_rfl) (fun _ _ _ h => h) hS (Or.inl ⟨rfl, fun w1 hw1 => by go_simp⟩) ?_
            simp only [Act.put, List.setIfInBounds_toArray, List.set_cons_zero, List.set_cons_succ]
            clear hS
            have z3 := HP3.out.z t
            have y3 := HP3.out.at_ t x HQx.out
            refine wpAnyK_one (i := 15) (by kernel_rfl) rfl rfl ?_
            go_simp
            first | refine ⟨(fun h => by cases h), ?_⟩ | skip
            have HP4 := hide (HP3.out.set t (y := y))
            have FS4 := Fr.setCell W3 ⟨gp, t, none⟩ (.pointer (some ⟨gf, y * 261, none⟩))
            have y4 := HP4.out.at_ (t - 1) y (by rw [List.getElem?_set_ne (by omega)]; exact HQy.out)
            have z4 := HP4.out.z (t - 1)
            generalize W3.setCell ⟨gp, t, none⟩ (.pointer (some ⟨gf, y * 261, none⟩)) = W4 at *
            try simp only [Act.put, List.setIfInBounds_toArray, List.set_cons_zero, List.set_cons_succ]
            refine wpAnyK_one (i := 16) (by kernel_rfl) rfl rfl ?_
            have ht1 : t - 1 < n := by omega
            rw [show ((t : Int) - 1) = ((t - 1 : Nat) : Int) by omega]
            go_simp
            first | refine ⟨(fun h => by cases h), ?_⟩ | skip
            try simp only [Act.put, List.setIfInBounds_toArray, List.set_cons_zero, List.set_cons_succ]
            refine wpAnyK_one (i := 17) (by kernel_rfl) rfl rfl ?_
            go_simp
            first | refine ⟨(fun h => by cases h), ?_⟩ | skip
            refine wpAnyK_done (by kernel_rfl) ?_ _
            have HP5 := hide (HP4.out.set (t - 1) (y := x))
            have HFW5 := hide (((HFW3.out.trans FS4).trans (Fr.setCell W4 ⟨gp, t - 1, none⟩ (.pointer (some ⟨gf, x * 261, none⟩)))).mono (Y := fun q => q = gp) (by intro q _ h; rcases h with (h | h) | h <;> exact h))
            have HQ5 := hide ((perm_swap h0 HQx.out HQy.out).trans HQ.out)
            generalize W4.setCell ⟨gp, t - 1, none⟩ (.pointer (some ⟨gf, x * 261, none⟩)) = W5 at *
            clear y3 z3 y4 z4 FS4
            go_wp2
            go_roundw
            case rel => exact ⟨t - 1, (Q.set t y).set (t - 1) x, by rw [show ((t - 1 : Nat) : Int) = (t : Int) - 1 by omega], by omega, HQ5.out, HP5.out, HFW5.out⟩
            case measure => simp [intOf]; omega
          · have hd : decide (zz < 0) = false := by simp [hz]
            rw [hd]
            clear hd
            go_wp2
            exact ⟨⟨k + 1, Q, by simp, by omega, by omega, HQ.out, HP2.out, HFW2.out⟩, by simp [intOf]; omega⟩
    · go_wp2
      go_end0
      exact ⟨rfl, Q0, HQ0.out, HP00.out, HFW0.out⟩
end Go.Proofs.Ytpjelmlbikmddaa
