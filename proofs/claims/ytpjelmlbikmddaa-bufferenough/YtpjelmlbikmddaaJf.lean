/- Frames are compared by their pages. -/
import Derived.Test.YtpjelmlbikmddaaJe
namespace Go.Proofs.Ytpjelmlbikmddaa
open Go.RowKit
set_option maxRecDepth 100000
set_option linter.unusedVariables false

theorem isNaN_any (x : Int) (w : World) : Calls Try.prog 62 #[.int .i64 x] w fun e w' => e = .returned (.bool false) ∧ w' = w := by
  go_enter Try.func62, Try.ntmps62
  go_wp2
  go_ret
  exact ⟨rfl, rfl⟩
theorem compare_any (x y : Int) (w : World) : Calls Try.prog 51 #[.int .i64 x, .int .i64 y] w fun e w' => ∃ z : Int, e = .returned (.int .i64 z) ∧ Fr w w' (fun _ => False) := by
  have HN := hide (fun z W => isNaN_any z W)
  go_enter Try.func51, Try.ntmps51
  go_wp2_with (go_at_call 62; refine (HN.out _ _).mono ?_; rintro e w' ⟨rfl, hV⟩; obtain rfl := hV.symm; clear hV)
  all_goals
    go_ret
    exact ⟨_, rfl, Fr.refl _ _⟩
set_option maxHeartbeats 1000000 in
theorem cmp50_any {w : World} {gf x y : Nat} {X Y : Frm} (hx : FrAt w gf (x * 261) X) (hy : FrAt w gf (y * 261) Y) :
    Calls Try.prog 50 #[.pointer (some ⟨gf, x * 261, none⟩), .pointer (some ⟨gf, y * 261, none⟩)] w fun e w' => ∃ z : Int, e = .returned (.int .i64 z) ∧ Fr w w' (fun _ => False) := by
  have HX := hide hx
  have HY := hide hy
  clear hx hy
  go_enter Try.func50, Try.ntmps50
  go_wp2_with fail
  refine wp_region_K (fun _ => true) (fun V : World => V.cell? ⟨gf, x * 261, none⟩ = some (.int .i64 X.page) ∧ V.cell? ⟨gf, y * 261, none⟩ = some (.int .i64 Y.page)) (by kernel_rfl) ?_
  have hS : (fun V : World => V.cell? ⟨gf, x * 261, none⟩ = some (.int .i64 X.page) ∧ V.cell? ⟨gf, y * 261, none⟩ = some (.int .i64 Y.page)) w.drew := ⟨HX.out.page, HY.out.page⟩
  have FD := Fr.drew w (fun _ => False)
  generalize w.drew = W1 at *
  refine wpAnyK_takeTo 0 (some 5) (.pointer (some ⟨gf, x * 261, none⟩)) [] rfl rfl (by kernel_rfl) (by kernel_rfl) (by kernel_rfl) (by kernel_rfl) (fun _ _ _ h => h) hS (Or.inl ⟨rfl, fun w1 hw1 => by go_simp⟩) ?_
  simp only [Act.put, List.setIfInBounds_toArray, List.set_cons_zero, List.set_cons_succ]
  refine wpAnyK_takeTo 1 (some 6) (.pointer (some ⟨gf, x * 261, none⟩)) [] rfl rfl (by kernel_rfl) (by kernel_rfl) (by kernel_rfl) (by kernel_rfl) (fun _ _ _ h => h) hS (Or.inl ⟨rfl, fun w1 hw1 => by go_simp⟩) ?_
  simp only [Act.put, List.setIfInBounds_toArray, List.set_cons_zero, List.set_cons_succ]
  refine wpAnyK_takeTo 2 (some 7) (.pointer (some ⟨gf, x * 261, none⟩)) [] rfl rfl (by kernel_rfl) (by kernel_rfl) (by kernel_rfl) (by kernel_rfl) (fun _ _ _ h => h) hS (Or.inl ⟨rfl, fun w1 hw1 => by go_simp⟩) ?_
  simp only [Act.put, List.setIfInBounds_toArray, List.set_cons_zero, List.set_cons_succ]
  refine wpAnyK_takeTo 3 (some 8) (.int .i64 X.page) [] rfl rfl (by kernel_rfl) (by kernel_rfl) (by kernel_rfl) (by kernel_rfl) (fun _ _ _ h => h) hS (Or.inl ⟨rfl, fun w1 hw1 => by obtain ⟨x1, x2⟩ := hw1; go_simp⟩) ?_
  simp only [Act.put, List.setIfInBounds_toArray, List.set_cons_zero, List.set_cons_succ]
  refine wpAnyK_takeTo 4 (some 9) (.pointer (some ⟨gf, y * 261, none⟩)) [] rfl rfl (by kernel_rfl) (by kernel_rfl) (by kernel_rfl) (by kernel_rfl) (fun _ _ _ h => h) hS (Or.inl ⟨rfl, fun w1 hw1 => by go_simp⟩) ?_
  simp only [Act.put, List.setIfInBounds_toArray, List.set_cons_zero, List.set_cons_succ]
  refine wpAnyK_takeTo 5 (some 10) (.pointer (some ⟨gf, y * 261, none⟩)) [] rfl rfl (by kernel_rfl) (by kernel_rfl) (by kernel_rfl) (by kernel_rfl) (fun _ _ _ h => h) hS (Or.inl ⟨rfl, fun w1 hw1 => by go_simp⟩) ?_
  simp only [Act.put, List.setIfInBounds_toArray, List.set_cons_zero, List.set_cons_succ]
  refine wpAnyK_takeTo 6 (some 11) (.pointer (some ⟨gf, y * 261, none⟩)) [] rfl rfl (by kernel_rfl) (by kernel_rfl) (by kernel_rfl) (by kernel_rfl) (fun _ _ _ h => h) hS (Or.inl ⟨rfl, fun w1 hw1 => by go_simp⟩) ?_
  simp only [Act.put, List.setIfInBounds_toArray, List.set_cons_zero, List.set_cons_succ]
  refine wpAnyK_takeTo 7 (some 12) (.int .i64 Y.page) [] rfl rfl (by kernel_rfl) (by kernel_rfl) (by kernel_rfl) (by kernel_rfl) (fun _ _ _ h => h) hS (Or.inl ⟨rfl, fun w1 hw1 => by obtain ⟨x1, x2⟩ := hw1; go_simp⟩) ?_
  simp only [Act.put, List.setIfInBounds_toArray, List.set_cons_zero, List.set_cons_succ]
  refine wpAnyK_one (i := 8) (by kernel_rfl) rfl rfl ?_
  refine wp_call_to (some 13) rfl 51 #[.int .i64 X.page, .int .i64 Y.page] (by go_simp) (compare_any X.page Y.page W1) ?_
  rintro e W2 ⟨z, rfl, f2⟩
  have hS : (fun V : World => V.cell? ⟨gf, x * 261, none⟩ = some (.int .i64 X.page) ∧ V.cell? ⟨gf, y * 261, none⟩ = some (.int .i64 Y.page)) W2 := ⟨by rw [World.cell?_of_block (w := W1) (f2.block gf (World.block_lt_of_cell? W1 _ hS.1) (fun h => h))]; exact hS.1, by rw [World.cell?_of_block (w := W1) (f2.block gf (World.block_lt_of_cell? W1 _ hS.1) (fun h => h))]; exact hS.2⟩
  refine ⟨_, rfl, fun _ => hS, ?_⟩
  simp only [Act.put, List.setIfInBounds_toArray, List.set_cons_zero, List.set_cons_succ]
  refine wpAnyK_takeTo 9 (some 4) (.int .i64 z) [] rfl rfl (by kernel_rfl) (by kernel_rfl) (by kernel_rfl) (by kernel_rfl) (fun _ _ _ h => h) hS (Or.inl ⟨rfl, fun w1 hw1 => by go_simp⟩) ?_
  simp only [Act.put, List.setIfInBounds_toArray, List.set_cons_zero, List.set_cons_succ]
  refine wpAnyK_done (by kernel_rfl) ?_ _
  have HF := hide ((FD.trans f2).mono (Y := fun _ => False) (by simp))
  clear hS FD f2
  go_wp2
  go_ret
  exact ⟨z, rfl, HF.out⟩
end Go.Proofs.Ytpjelmlbikmddaa

/- An insertion sort of frames: they stand in another order. -/
namespace Go.Proofs.Ytpjelmlbikmddaa
open Go.RowKit
set_option maxRecDepth 100000
set_option linter.unusedVariables false

theorem wpAnyK_weak {P : Program} {ops : Array Oper} {Q : Exit → Act → World → Prop} {md : Region.Mode} {S : World → Prop} {hold : Nat → Bool} : ∀ (fuel : Nat) (listed : Array Bool) (a : Act) (w : World), wpAnyK P md ops Q hold S fuel listed a w → wpAnyK P md ops Q (fun _ => true) (fun _ => True) fuel listed a w
  | 0, _, _, _, H => H
  | fuel + 1, _, _, _, H => ⟨H.1, fun i hi => wpOp_mono (fun a' w' h' => ⟨fun _ => trivial, wpAnyK_weak fuel _ a' w' h'.2⟩) (H.2 i hi)⟩

/-- A row of pointers to frames. -/
structure PtsAt (w : World) (gp gf : Nat) (Ps : List Nat) : Prop where
  at_ : ∀ j x, Ps[j]? = some x → w.cell? ⟨gp, j, none⟩ = some (.pointer (some ⟨gf, x * 261, none⟩))
  z : ∀ j, w.frozen? ⟨gp, j, none⟩ = false
  lt : gp < w.heap.size
theorem PtsAt.fr {w w' : World} {X : Nat → Prop} {gp gf : Nat} {Ps : List Nat} (h : PtsAt w gp gf Ps) (hf : Fr w w' X) (hx : ¬ X gp) : PtsAt w' gp gf Ps :=
  ⟨fun j x hj => by rw [World.cell?_of_block (w := w) (hf.block gp h.lt hx)]; exact h.at_ j x hj, fun j => by have := h.z j; unfold World.frozen? at *; rw [hf.block gp h.lt hx]; exact this, Nat.lt_of_lt_of_le h.lt hf.size⟩
theorem PtsAt.set {w : World} {gp gf : Nat} {Ps : List Nat} (h : PtsAt w gp gf Ps) (t : Nat) {y : Nat} : PtsAt (w.setCell ⟨gp, t, none⟩ (.pointer (some ⟨gf, y * 261, none⟩))) gp gf (Ps.set t y) := by
  refine ⟨fun j x hj => ?_, fun j => by rw [World.frozen?_setCell]; exact h.z j, by rw [World.size_setCell]; exact h.lt⟩
  by_cases hjt : t = j
  · subst hjt
    rw [List.getElem?_set] at hj
    simp only [if_true] at hj
    split at hj
    · rename_i hl
      cases hj
      exact World.cell?_setCell_same _ _ _ (h.at_ t _ (List.getElem?_eq_getElem hl))
    · cases hj
  · rw [List.getElem?_set_ne hjt] at hj
    rw [World.cell?_setCell_other _ _ _ _ (fun hh => by injection hh; omega)]
    exact h.at_ j x hj
theorem perm_swap {Q : List Nat} {t x y : Nat} (h0 : 0 < t) (hx : Q[t]? = some x) (hy : Q[t - 1]? = some y) : ((Q.set t y).set (t - 1) x).Perm Q := by
  obtain ⟨a1, a2⟩ := List.getElem?_eq_some_iff.1 hx
  obtain ⟨b1, b2⟩ := List.getElem?_eq_some_iff.1 hy
  have := @List.set_set_perm _ Q _ _ a1 b1
  rw [a2, b2] at this
  exact this

set_option maxHeartbeats 4000000 in
theorem insertion_any {w : World} {gp gf c : Nat} {L : List Frm} {Ps : List Nat} (hP : PtsAt w gp gf Ps) (hF : FrsAt w gf L) (hin : ∀ x ∈ Ps, x < L.length) (hne : gf ≠ gp) (hm : Ps.length ≤ 12) :
    Calls Try.prog 65 #[.slice (some ⟨gp, 0, none⟩) Ps.length c, .int .i64 0, .int .i64 (Ps.length : Int), .func (.func 50) #[] #[]] w fun e w' => e = .returned (.tuple #[]) ∧ ∃ Q : List Nat, Q.Perm Ps ∧ PtsAt w' gp gf Q ∧ Fr w w' (fun k => k = gp) := by
  obtain ⟨n, hn⟩ : ∃ n, n = Ps.length := ⟨_, rfl⟩
  rw [← hn] at hm ⊢
  have HN := hide hn
  have HP0 := hide hP
  have HFR := hide (show ∀ W, Fr w W (fun q => q = gp) → FrsAt W gf L from fun W hW => hF.fr hW hne)
  have HIN := hide (show ∀ x ∈ Ps, ∃ X, L[x]? = some X from fun x hx => ⟨_, List.getElem?_eq_getElem (hin x hx)⟩)
  clear hP hF hin hn
  go_enter Try.func65, Try.ntmps65
  go_wp2
  go_loopw [8] (fun i wr => ∃ (k : Nat) (Q : List Nat), i = .int .i64 (k : Int) ∧ 1 ≤ k ∧ k ≤ 13 ∧ Q.Perm Ps ∧ PtsAt wr gp gf Q ∧ Fr w wr (fun q => q = gp)) (fun i _ => 13 - (intOf i).toNat)
  case atStart => exact ⟨1, Ps, rfl, by omega, by omega, List.Perm.refl _, HP0.out, Fr.refl _ _⟩
  case round =>
    rename World => W0
    obtain ⟨k, Q0, rfl, hk1, hk13, hq, hp, hf⟩ := hrel
    have HQ0 := hide hq
    have HP00 := hide hp
    have HFW0 := hide hf
    clear hq hp hf
    by_cases hlt : k < n
    · go_wp2_with fail
      go_loopw [9] (fun j wr => ∃ (t : Nat) (Q : List Nat), j = .int .i64 (t : Int) ∧ t ≤ k ∧ Q.Perm Ps ∧ PtsAt wr gp gf Q ∧ Fr w wr (fun q => q = gp)) (fun j _ => (intOf j).toNat)
      case atStart => exact ⟨k, Q0, rfl, by omega, HQ0.out, HP00.out, HFW0.out⟩
      case round =>
        rename World => W
        obtain ⟨t, Q, rfl, htk, hq, hp, hf⟩ := hrel
        have HQ := hide hq
        have HP := hide hp
        have HFW := hide hf
        clear hq hp hf HQ0 HP00 HFW0
        rcases Nat.eq_zero_or_pos t with h0 | h0
        · subst h0
          go_wp2_with fail
          refine wp_region_K (fun _ => true) (fun _ => True) (by kernel_rfl) ?_
          have hS : (fun _ : World => True) W.drew := trivial
          have FD := Fr.drew W (fun _ => False)
          have HP1 := hide (HP.out.fr FD (fun h => h))
          have HFW1 := hide ((HFW.out.trans FD).mono (Y := fun q => q = gp) (by intro q _ h; rcases h with h | h; exact h; exact h.elim))
          generalize W.drew = W1 at *
          refine wpAnyK_takeTo 0 (some 18) (.int .i64 0) [] rfl rfl (by kernel_rfl) (by kernel_rfl) (by kernel_rfl) (by kernel_rfl) (fun _ _ _ h => h) hS (Or.inl ⟨rfl, fun w1 hw1 => by go_simp⟩) ?_
          simp only [Act.put, List.setIfInBounds_toArray, List.set_cons_zero, List.set_cons_succ]
          refine wpAnyK_takeTo 1 (some 19) (.int .i64 0) [] rfl rfl (by kernel_rfl) (by kernel_rfl) (by kernel_rfl) (by kernel_rfl) (fun _ _ _ h => h) hS (Or.inl ⟨rfl, fun w1 hw1 => by go_simp⟩) ?_
          simp only [Act.put, List.setIfInBounds_toArray, List.set_cons_zero, List.set_cons_succ]
          refine wpAnyK_takeTo 2 (some 20) (.bool false) [] rfl rfl (by kernel_rfl) (by kernel_rfl) (by kernel_rfl) (by kernel_rfl) (fun _ _ _ h => h) hS (Or.inl ⟨rfl, fun w1 hw1 => by go_simp⟩) ?_
          simp only [Act.put, List.setIfInBounds_toArray, List.set_cons_zero, List.set_cons_succ]
          refine wpAnyK_takeTo 3 (some 21) (.bool false) [] rfl rfl (by kernel_rfl) (by kernel_rfl) (by kernel_rfl) (by kernel_rfl) (fun _ _ _ h => h) hS (Or.inl ⟨rfl, fun w1 hw1 => by go_simp⟩) ?_
          simp only [Act.put, List.setIfInBounds_toArray, List.set_cons_zero, List.set_cons_succ]
          refine wpAnyK_takeTo 4 (some 22) (undef) [] rfl rfl (by kernel_rfl) (by kernel_rfl) (by kernel_rfl) (by kernel_rfl) (fun _ _ _ h => h) hS (Or.inr ⟨rfl, rfl⟩) ?_
          simp only [Act.put, List.setIfInBounds_toArray, List.set_cons_zero, List.set_cons_succ]
          refine wpAnyK_takeTo 5 (some 23) (undef) [] rfl rfl (by kernel_rfl) (by kernel_rfl) (by kernel_rfl) (by kernel_rfl) (fun _ _ _ h => h) hS (Or.inr ⟨rfl, rfl⟩) ?_
          simp only [Act.put, List.setIfInBounds_toArray, List.set_cons_zero, List.set_cons_succ]
          refine wpAnyK_takeTo 6 (some 24) (undef) [] rfl rfl (by kernel_rfl) (by kernel_rfl) (by kernel_rfl) (by kernel_rfl) (fun _ _ _ h => h) hS (Or.inr ⟨rfl, rfl⟩) ?_
          simp only [Act.put, List.setIfInBounds_toArray, List.set_cons_zero, List.set_cons_succ]
          refine wpAnyK_takeTo 7 (some 25) (undef) [] rfl rfl (by kernel_rfl) (by kernel_rfl) (by kernel_rfl) (by kernel_rfl) (fun _ _ _ h => h) hS (Or.inr ⟨rfl, rfl⟩) ?_
          simp only [Act.put, List.setIfInBounds_toArray, List.set_cons_zero, List.set_cons_succ]
          refine wpAnyK_takeTo 8 (some 26) (undef) [] rfl rfl (by kernel_rfl) (by kernel_rfl) (by kernel_rfl) (by kernel_rfl) (fun _ _ _ h => h) hS (Or.inr ⟨rfl, rfl⟩) ?_
          simp only [Act.put, List.setIfInBounds_toArray, List.set_cons_zero, List.set_cons_succ]
          refine wpAnyK_takeTo 9 (some 27) (undef) [] rfl rfl (by kernel_rfl) (by kernel_rfl) (by kernel_rfl) (by kernel_rfl) (fun _ _ _ h => h) hS (Or.inr ⟨rfl, rfl⟩) ?_
          simp only [Act.put, List.setIfInBounds_toArray, List.set_cons_zero, List.set_cons_succ]
          refine wpAnyK_takeTo 10 (some 28) (undef) [] rfl rfl (by kernel_rfl) (by kernel_rfl) (by kernel_rfl) (by kernel_rfl) (fun _ _ _ h => h) hS (Or.inr ⟨rfl, rfl⟩) ?_
          simp only [Act.put, List.setIfInBounds_toArray, List.set_cons_zero, List.set_cons_succ]
          refine wpAnyK_takeTo 11 (some 29) (undef) [] rfl rfl (by kernel_rfl) (by kernel_rfl) (by kernel_rfl) (by kernel_rfl) (fun _ _ _ h => h) hS (Or.inr ⟨rfl, rfl⟩) ?_
          simp only [Act.put, List.setIfInBounds_toArray, List.set_cons_zero, List.set_cons_succ]
          refine wpAnyK_takeTo 12 (some 30) (undef) [] rfl rfl (by kernel_rfl) (by kernel_rfl) (by kernel_rfl) (by kernel_rfl) (fun _ _ _ h => h) hS (Or.inr ⟨rfl, rfl⟩) ?_
          simp only [Act.put, List.setIfInBounds_toArray, List.set_cons_zero, List.set_cons_succ]
          refine wpAnyK_takeTo 13 (some 31) (undef) [] rfl rfl (by kernel_rfl) (by kernel_rfl) (by kernel_rfl) (by kernel_rfl) (fun _ _ _ h => h) hS (Or.inr ⟨rfl, rfl⟩) ?_
          simp only [Act.put, List.setIfInBounds_toArray, List.set_cons_zero, List.set_cons_succ]
          refine wpAnyK_takeTo 14 (some 32) (undef) [] rfl rfl (by kernel_rfl) (by kernel_rfl) (by kernel_rfl) (by kernel_rfl) (fun _ _ _ h => h) hS (Or.inr ⟨rfl, rfl⟩) ?_
          simp only [Act.put, List.setIfInBounds_toArray, List.set_cons_zero, List.set_cons_succ]
          refine wpAnyK_takeTo 15 (some 33) (undef) [] rfl rfl (by kernel_rfl) (by kernel_rfl) (by kernel_rfl) (by kernel_rfl) (fun _ _ _ h => h) hS (Or.inr ⟨rfl, rfl⟩) ?_
          simp only [Act.put, List.setIfInBounds_toArray, List.set_cons_zero, List.set_cons_succ]
          refine wpAnyK_takeTo 16 (some 34) (.bool false) [] rfl rfl (by kernel_rfl) (by kernel_rfl) (by kernel_rfl) (by kernel_rfl) (fun _ _ _ h => h) hS (Or.inl ⟨rfl, fun w1 hw1 => by go_simp⟩) ?_
          simp only [Act.put, List.setIfInBounds_toArray, List.set_cons_zero, List.set_cons_succ]
          refine wpAnyK_done (by kernel_rfl) ?_ _
          clear hS FD
          go_wp2
          exact ⟨⟨k + 1, Q, by simp, by omega, by omega, HQ.out, HP1.out, HFW1.out⟩, by simp [intOf]; omega⟩
        · have hql : Q.length = n := by rw [HQ.out.length_eq, HN.out]
          obtain ⟨x, hx⟩ : ∃ x, Q[t]? = some x := ⟨_, List.getElem?_eq_getElem (by omega)⟩
          obtain ⟨y, hy⟩ : ∃ y, Q[t - 1]? = some y := ⟨_, List.getElem?_eq_getElem (by omega)⟩
          obtain ⟨X0, hX0⟩ := HIN.out x (HQ.out.mem_iff.1 (List.mem_of_getElem? hx))
          obtain ⟨Y0, hY0⟩ := HIN.out y (HQ.out.mem_iff.1 (List.mem_of_getElem? hy))
          have HCx := hide (HP.out.at_ t x hx)
          have HCy := hide (HP.out.at_ (t - 1) y hy)
          have HQx := hide hx
          have HQy := hide hy
          have HX0 := hide hX0
          have HY0 := hide hY0
          have htn : t < n := by omega
          have wk : IntKind.i64.wrap ((t : Int) - 1) = (t : Int) - 1 := by rw [IntKind.wrap_i64]; omega
          clear hql hx hy hX0 hY0
          go_wp2_with fail
          refine wp_region_K (fun _ => true) (fun V : World => V.cell? ⟨gp, t, none⟩ = some (.pointer (some ⟨gf, x * 261, none⟩)) ∧ V.cell? ⟨gp, t - 1, none⟩ = some (.pointer (some ⟨gf, y * 261, none⟩))) (by kernel_rfl) ?_
          have FD := Fr.drew W (fun _ => False)
          have hS : (fun V : World => V.cell? ⟨gp, t, none⟩ = some (.pointer (some ⟨gf, x * 261, none⟩)) ∧ V.cell? ⟨gp, t - 1, none⟩ = some (.pointer (some ⟨gf, y * 261, none⟩))) W.drew := ⟨HCx.out, HCy.out⟩
          have HP1 := hide (HP.out.fr FD (fun h => h))
          have HFW1 := hide ((HFW.out.trans FD).mono (Y := fun q => q = gp) (by intro q _ h; rcases h with h | h; exact h; exact h.elim))
          generalize W.drew = W1 at *
          refine wpAnyK_takeTo 0 (some 18) (.int .i64 (t : Int)) [] rfl rfl (by kernel_rfl) (by kernel_rfl) (by kernel_rfl) (by kernel_rfl) (fun _ _ _ h => h) hS (Or.inl ⟨rfl, fun w1 hw1 => by go_simp⟩) ?_
          simp only [Act.put, List.setIfInBounds_toArray, List.set_cons_zero, List.set_cons_succ]
          refine wpAnyK_takeTo 1 (some 19) (.int .i64 0) [] rfl rfl (by kernel_rfl) (by kernel_rfl) (by kernel_rfl) (by kernel_rfl) (fun _ _ _ h => h) hS (Or.inl ⟨rfl, fun w1 hw1 => by go_simp⟩) ?_
          simp only [Act.put, List.setIfInBounds_toArray, List.set_cons_zero, List.set_cons_succ]
          refine wpAnyK_takeTo 2 (some 20) (.bool true) [] rfl rfl (by kernel_rfl) (by kernel_rfl) (by kernel_rfl) (by kernel_rfl) (fun _ _ _ h => h) hS (Or.inl ⟨rfl, fun w1 hw1 => by go_simp⟩) ?_
          simp only [Act.put, List.setIfInBounds_toArray, List.set_cons_zero, List.set_cons_succ]
          refine wpAnyK_takeTo 3 (some 21) (.bool true) [] rfl rfl (by kernel_rfl) (by kernel_rfl) (by kernel_rfl) (by kernel_rfl) (fun _ _ _ h => h) hS (Or.inl ⟨rfl, fun w1 hw1 => by go_simp⟩) ?_
          simp only [Act.put, List.setIfInBounds_toArray, List.set_cons_zero, List.set_cons_succ]
          refine wpAnyK_takeTo 4 (some 22) (.func (.func 50) #[] #[]) [] rfl rfl (by kernel_rfl) (by kernel_rfl) (by kernel_rfl) (by kernel_rfl) (fun _ _ _ h => h) hS (Or.inl ⟨rfl, fun w1 hw1 => by go_simp⟩) ?_
          simp only [Act.put, List.setIfInBounds_toArray, List.set_cons_zero, List.set_cons_succ]
          refine wpAnyK_takeTo 5 (some 23) (.slice (some ⟨gp, 0, none⟩) n c) [] rfl rfl (by kernel_rfl) (by kernel_rfl) (by kernel_rfl) (by kernel_rfl) (fun _ _ _ h => h) hS (Or.inl ⟨rfl, fun w1 hw1 => by go_simp⟩) ?_
          simp only [Act.put, List.setIfInBounds_toArray, List.set_cons_zero, List.set_cons_succ]
          refine wpAnyK_takeTo 6 (some 24) (.int .i64 (t : Int)) [] rfl rfl (by kernel_rfl) (by kernel_rfl) (by kernel_rfl) (by kernel_rfl) (fun _ _ _ h => h) hS (Or.inl ⟨rfl, fun w1 hw1 => by go_simp⟩) ?_
          simp only [Act.put, List.setIfInBounds_toArray, List.set_cons_zero, List.set_cons_succ]
          refine wpAnyK_takeTo 7 (some 25) (.pointer (some ⟨gp, t, none⟩)) [] rfl rfl (by kernel_rfl) (by kernel_rfl) (by kernel_rfl) (by kernel_rfl) (fun _ _ _ h => h) hS (Or.inl ⟨rfl, fun w1 hw1 => by go_simp⟩) ?_
          simp only [Act.put, List.setIfInBounds_toArray, List.set_cons_zero, List.set_cons_succ]
          refine wpAnyK_takeTo 8 (some 26) (.pointer (some ⟨gf, x * 261, none⟩)) [] rfl rfl (by kernel_rfl) (by kernel_rfl) (by kernel_rfl) (by kernel_rfl) (fun _ _ _ h => h) hS (Or.inl ⟨rfl, fun w1 hw1 => by obtain ⟨x1, x2⟩ := hw1; go_simp⟩) ?_
          simp only [Act.put, List.setIfInBounds_toArray, List.set_cons_zero, List.set_cons_succ]
          refine wpAnyK_takeTo 9 (some 27) (.slice (some ⟨gp, 0, none⟩) n c) [] rfl rfl (by kernel_rfl) (by kernel_rfl) (by kernel_rfl) (by kernel_rfl) (fun _ _ _ h => h) hS (Or.inl ⟨rfl, fun w1 hw1 => by go_simp⟩) ?_
          simp only [Act.put, List.setIfInBounds_toArray, List.set_cons_zero, List.set_cons_succ]
          refine wpAnyK_takeTo 10 (some 28) (.int .i64 (t : Int)) [] rfl rfl (by kernel_rfl) (by kernel_rfl) (by kernel_rfl) (by kernel_rfl) (fun _ _ _ h => h) hS (Or.inl ⟨rfl, fun w1 hw1 => by go_simp⟩) ?_
          simp only [Act.put, List.setIfInBounds_toArray, List.set_cons_zero, List.set_cons_succ]
          refine wpAnyK_takeTo 11 (some 29) (.int .i64 ((t : Int) - 1)) [] rfl rfl (by kernel_rfl) (by kernel_rfl) (by kernel_rfl) (by kernel_rfl) (fun _ _ _ h => h) hS (Or.inl ⟨rfl, fun w1 hw1 => by go_simp; first | done | simp only [wk]⟩) ?_
          simp only [Act.put, List.setIfInBounds_toArray, List.set_cons_zero, List.set_cons_succ]
          refine wpAnyK_takeTo 12 (some 30) (.pointer (some ⟨gp, t - 1, none⟩)) [] rfl rfl (by kernel_rfl) (by kernel_rfl) (by kernel_rfl) (by kernel_rfl) (fun _ _ _ h => h) hS (Or.inl ⟨rfl, fun w1 hw1 => by rw [show ((t : Int) - 1) = ((t - 1 : Nat) : Int) by omega]; go_simp; first | done | (intro hb; omega)⟩) ?_
          simp only [Act.put, List.setIfInBounds_toArray, List.set_cons_zero, List.set_cons_succ]
          refine wpAnyK_takeTo 13 (some 31) (.pointer (some ⟨gf, y * 261, none⟩)) [] rfl rfl (by kernel_rfl) (by kernel_rfl) (by kernel_rfl) (by kernel_rfl) (fun _ _ _ h => h) hS (Or.inl ⟨rfl, fun w1 hw1 => by obtain ⟨x1, x2⟩ := hw1; go_simp⟩) ?_
          simp only [Act.put, List.setIfInBounds_toArray, List.set_cons_zero, List.set_cons_succ]
          refine wpAnyK_one (i := 14) (by kernel_rfl) rfl rfl ?_
          refine wp_call_to (some 32) rfl 50 #[.pointer (some ⟨gf, x * 261, none⟩), .pointer (some ⟨gf, y * 261, none⟩)] (by go_simp) (cmp50_any (HFR.out _ HFW1.out x X0 HX0.out) (HFR.out _ HFW1.out y Y0 HY0.out)) ?_
          rintro e W2 ⟨zz, rfl, f2⟩
          have HP2 := hide (HP1.out.fr f2 (fun h => h))
          have HFW2 := hide ((HFW1.out.trans f2).mono (Y := fun q => q = gp) (by intro q _ h; rcases h with h | h; exact h; exact h.elim))
          have hS : (fun V : World => V.cell? ⟨gp, t, none⟩ = some (.pointer (some ⟨gf, x * 261, none⟩)) ∧ V.cell? ⟨gp, t - 1, none⟩ = some (.pointer (some ⟨gf, y * 261, none⟩))) W2 := ⟨HP2.out.at_ t x HQx.out, HP2.out.at_ (t - 1) y HQy.out⟩
          refine ⟨_, rfl, fun _ => hS, ?_⟩
          simp only [Act.put, List.setIfInBounds_toArray, List.set_cons_zero, List.set_cons_succ]
          refine wpAnyK_takeTo 15 (some 33) (.bool (decide (zz < 0))) [] rfl rfl (by kernel_rfl) (by kernel_rfl) (by kernel_rfl) (by kernel_rfl) (fun _ _ _ h => h) hS (Or.inl ⟨rfl, fun w1 hw1 => by go_simp⟩) ?_
          simp only [Act.put, List.setIfInBounds_toArray, List.set_cons_zero, List.set_cons_succ]
          refine wpAnyK_takeTo 16 (some 34) (.bool (decide (zz < 0))) [] rfl rfl (by kernel_rfl) (by kernel_rfl) (by kernel_rfl) (by kernel_rfl) (fun _ _ _ h => h) hS (Or.inl ⟨rfl, fun w1 hw1 => by go_simp⟩) ?_
          simp only [Act.put, List.setIfInBounds_toArray, List.set_cons_zero, List.set_cons_succ]
          refine wpAnyK_done (by kernel_rfl) ?_ _
          clear hS FD f2 HP1 HFW1
          by_cases hz : zz < 0
          · have hd : decide (zz < 0) = true := by simp [hz]
            rw [hd]
            clear hd
            go_wp2_with fail
            refine wp_region_K (fun _ => true) (fun _ => True) (by kernel_rfl) ?_
            have FD := Fr.drew W2 (fun _ => False)
            have HP3 := hide (HP2.out.fr FD (fun h => h))
            have HFW3 := hide ((HFW2.out.trans FD).mono (Y := fun q => q = gp) (by intro q _ h; rcases h with h | h; exact h; exact h.elim))
            have hS0 : (fun _ : World => True) W2.drew := trivial
            generalize W2.drew = W3 at *
            refine wpAnyK_takeTo 2 (some 39) (.slice (some ⟨gp, 0, none⟩) n c) [] rfl rfl (by kernel_rfl) (by kernel_rfl) (by kernel_rfl) (by kernel_rfl) (fun _ _ _ h => h) hS0 (Or.inl ⟨rfl, fun w1 hw1 => by go_simp⟩) ?_
            simp only [Act.put, List.setIfInBounds_toArray, List.set_cons_zero, List.set_cons_succ]
            refine wpAnyK_takeTo 3 (some 40) (.int .i64 (t : Int)) [] rfl rfl (by kernel_rfl) (by kernel_rfl) (by kernel_rfl) (by kernel_rfl) (fun _ _ _ h => h) hS0 (Or.inl ⟨rfl, fun w1 hw1 => by go_simp⟩) ?_
            simp only [Act.put, List.setIfInBounds_toArray, List.set_cons_zero, List.set_cons_succ]
            refine wpAnyK_takeTo 4 (some 41) (.int .i64 ((t : Int) - 1)) [] rfl rfl (by kernel_rfl) (by kernel_rfl) (by kernel_rfl) (by kernel_rfl) (fun _ _ _ h => h) hS0 (Or.inl ⟨rfl, fun w1 hw1 => by go_simp; first | done | simp only [wk]⟩) ?_
            simp only [Act.put, List.setIfInBounds_toArray, List.set_cons_zero, List.set_cons_succ]
            refine wpAnyK_weak (hold := fun q => decide (q < 15)) (S := (fun V : World => V.cell? ⟨gp, t, none⟩ = some (.pointer (some ⟨gf, x * 261, none⟩)) ∧ V.cell? ⟨gp, t - 1, none⟩ = some (.pointer (some ⟨gf, y * 261, none⟩)))) _ _ _ _ ?_
            have hS : (fun V : World => V.cell? ⟨gp, t, none⟩ = some (.pointer (some ⟨gf, x * 261, none⟩)) ∧ V.cell? ⟨gp, t - 1, none⟩ = some (.pointer (some ⟨gf, y * 261, none⟩))) W3 := ⟨HP3.out.at_ t x HQx.out, HP3.out.at_ (t - 1) y HQy.out⟩
            refine wpAnyK_takeTo 0 (some 37) (.slice (some ⟨gp, 0, none⟩) n c) [15, 16, 17] rfl rfl (by kernel_rfl) (by kernel_rfl) (by kernel_rfl) (by kernel_rfl) (fun _ _ _ h => h) hS (Or.inl ⟨rfl, fun w1 hw1 => by go_simp⟩) ?_
            simp only [Act.put, List.setIfInBounds_toArray, List.set_cons_zero, List.set_cons_succ]
            refine wpAnyK_takeTo 1 (some 38) (.int .i64 (t : Int)) [15, 16, 17] rfl rfl (by kernel_rfl) (by kernel_rfl) (by kernel_rfl) (by kernel_rfl) (fun _ _ _ h => h) hS (Or.inl ⟨rfl, fun w1 hw1 => by go_simp⟩) ?_
            simp only [Act.put, List.setIfInBounds_toArray, List.set_cons_zero, List.set_cons_succ]
            refine wpAnyK_takeTo 5 (some 42) (.slice (some ⟨gp, 0, none⟩) n c) [15, 16, 17] rfl rfl (by kernel_rfl) (by kernel_rfl) (by kernel_rfl) (by kernel_rfl) (fun _ _ _ h => h) hS (Or.inl ⟨rfl, fun w1 hw1 => by go_simp⟩) ?_
            simp only [Act.put, List.setIfInBounds_toArray, List.set_cons_zero, List.set_cons_succ]
            refine wpAnyK_takeTo 6 (some 43) (.int .i64 (t : Int)) [15, 16, 17] rfl rfl (by kernel_rfl) (by kernel_rfl) (by kernel_rfl) (by kernel_rfl) (fun _ _ _ h => h) hS (Or.inl ⟨rfl, fun w1 hw1 => by go_simp⟩) ?_
            simp only [Act.put, List.setIfInBounds_toArray, List.set_cons_zero, List.set_cons_succ]
            refine wpAnyK_takeTo 7 (some 44) (.int .i64 ((t : Int) - 1)) [15, 16, 17] rfl rfl (by kernel_rfl) (by kernel_rfl) (by kernel_rfl) (by kernel_rfl) (fun _ _ _ h => h) hS (Or.inl ⟨rfl, fun w1 hw1 => by go_simp; first | done | simp only [wk]⟩) ?_
            simp only [Act.put, List.setIfInBounds_toArray, List.set_cons_zero, List.set_cons_succ]
            refine wpAnyK_takeTo 8 (some 45) (.pointer (some ⟨gp, t - 1, none⟩)) [15, 16, 17] rfl rfl (by kernel_rfl) (by kernel_rfl) (by kernel_rfl) (by kernel_rfl) (fun _ _ _ h => h) hS (Or.inl ⟨rfl, fun w1 hw1 => by rw [show ((t : Int) - 1) = ((t - 1 : Nat) : Int) by omega]; go_simp; first | done | (intro hb; omega)⟩) ?_
            simp only [Act.put, List.setIfInBounds_toArray, List.set_cons_zero, List.set_cons_succ]
            refine wpAnyK_takeTo 9 (some 46) (.pointer (some ⟨gf, y * 261, none⟩)) [15, 16, 17] rfl rfl (by kernel_rfl) (by kernel_rfl) (by kernel_rfl) (by kernel_rfl) (fun _ _ _ h => h) hS (Or.inl ⟨rfl, fun w1 hw1 => by obtain ⟨x1, x2⟩ := hw1; go_simp⟩) ?_
            simp only [Act.put, List.setIfInBounds_toArray, List.set_cons_zero, List.set_cons_succ]
            refine wpAnyK_takeTo 10 (some 47) (.slice (some ⟨gp, 0, none⟩) n c) [12, 13, 15, 16, 17] rfl rfl (by kernel_rfl) (by kernel_rfl) (by kernel_rfl) (by kernel_rfl) (fun _ _ _ h => h) hS (Or.inl ⟨rfl, fun w1 hw1 => by go_simp⟩) ?_
            simp only [Act.put, List.setIfInBounds_toArray, List.set_cons_zero, List.set_cons_succ]
            refine wpAnyK_takeTo 11 (some 48) (.int .i64 (t : Int)) [12, 13, 15, 16, 17] rfl rfl (by kernel_rfl) (by kernel_rfl) (by kernel_rfl) (by kernel_rfl) (fun _ _ _ h => h) hS (Or.inl ⟨rfl, fun w1 hw1 => by go_simp⟩) ?_
            simp only [Act.put, List.setIfInBounds_toArray, List.set_cons_zero, List.set_cons_succ]
            refine wpAnyK_takeTo 12 (some 49) (.pointer (some ⟨gp, t, none⟩)) [13, 15, 16, 17] rfl rfl (by kernel_rfl) (by kernel_rfl) (by kernel_rfl) (by kernel_rfl) (fun _ _ _ h => h) hS (Or.inl ⟨rfl, fun w1 hw1 => by go_simp⟩) ?_
            simp only [Act.put, List.setIfInBounds_toArray, List.set_cons_zero, List.set_cons_succ]
            refine wpAnyK_takeTo 13 (some 50) (.pointer (some ⟨gf, x * 261, none⟩)) [15, 16, 17] rfl rfl (by kernel_rfl) (by kernel_rfl) (by kernel_rfl) (by kernel_rfl) (fun _ _ _ h => h) hS (Or.inl ⟨rfl, fun w1 hw1 => by obtain ⟨x1, x2⟩ := hw1; go_simp⟩) ?_
            simp only [Act.put, List.setIfInBounds_toArray, List.set_cons_zero, List.set_cons_succ]
            refine wpAnyK_takeTo 14 (some 51) (.pointer (some ⟨gp, t, none⟩)) [15, 16, 17] rfl rfl (by kernel_rfl) (by kernel_rfl) (by kernel_rfl) (by kernel_rfl) (fun _ _ _ h => h) hS (Or.inl ⟨rfl, fun w1 hw1 => by go_simp⟩) ?_
            simp only [Act.put, List.setIfInBounds_toArray, List.set_cons_zero, List.set_cons_succ]
            clear hS
            have z3 := HP3.out.z t
            have y3 := HP3.out.at_ t x HQx.out
            refine wpAnyK_one (i := 15) (by kernel_rfl) rfl rfl ?_
            go_simp
            first | refine ⟨(fun h => by cases h), ?_⟩ | skip
            have HP4 := hide (HP3.out.set t (y := y))
            have FS4 := Fr.setCell W3 ⟨gp, t, none⟩ (.pointer (some ⟨gf, y * 261, none⟩))
            have y4 := HP4.out.at_ (t - 1) y (by rw [List.getElem?_set_ne (by omega)]; exact HQy.out)
            have z4 := HP4.out.z (t - 1)
            generalize W3.setCell ⟨gp, t, none⟩ (.pointer (some ⟨gf, y * 261, none⟩)) = W4 at *
            try simp only [Act.put, List.setIfInBounds_toArray, List.set_cons_zero, List.set_cons_succ]
            refine wpAnyK_one (i := 16) (by kernel_rfl) rfl rfl ?_
            have ht1 : t - 1 < n := by omega
            rw [show ((t : Int) - 1) = ((t - 1 : Nat) : Int) by omega]
            go_simp
            first | refine ⟨(fun h => by cases h), ?_⟩ | skip
            try simp only [Act.put, List.setIfInBounds_toArray, List.set_cons_zero, List.set_cons_succ]
            refine wpAnyK_one (i := 17) (by kernel_rfl) rfl rfl ?_
            go_simp
            first | refine ⟨(fun h => by cases h), ?_⟩ | skip
            refine wpAnyK_done (by kernel_rfl) ?_ _
            have HP5 := hide (HP4.out.set (t - 1) (y := x))
            have HFW5 := hide (((HFW3.out.trans FS4).trans (Fr.setCell W4 ⟨gp, t - 1, none⟩ (.pointer (some ⟨gf, x * 261, none⟩)))).mono (Y := fun q => q = gp) (by intro q _ h; rcases h with (h | h) | h <;> exact h))
            have HQ5 := hide ((perm_swap h0 HQx.out HQy.out).trans HQ.out)
            generalize W4.setCell ⟨gp, t - 1, none⟩ (.pointer (some ⟨gf, x * 261, none⟩)) = W5 at *
            clear y3 z3 y4 z4 FS4
            go_wp2
            go_roundw
            case rel => exact ⟨t - 1, (Q.set t y).set (t - 1) x, by rw [show ((t - 1 : Nat) : Int) = (t : Int) - 1 by omega], by omega, HQ5.out, HP5.out, HFW5.out⟩
            case measure => simp [intOf]; omega
          · have hd : decide (zz < 0) = false := by simp [hz]
            rw [hd]
            clear hd
            go_wp2
            exact ⟨⟨k + 1, Q, by simp, by omega, by omega, HQ.out, HP2.out, HFW2.out⟩, by simp [intOf]; omega⟩
    · go_wp2
      go_end0
      exact ⟨rfl, Q0, HQ0.out, HP00.out, HFW0.out⟩
end Go.Proofs.Ytpjelmlbikmddaa

/- SortFunc of at most twelve frames. -/
namespace Go.Proofs.Ytpjelmlbikmddaa
open Go.RowKit
set_option maxRecDepth 100000
set_option linter.unusedVariables false

theorem len64_any (w : World) : ∀ (n : Nat), n ≤ 12 → Calls Try.prog 74 #[.int .u64 (n : Int)] w fun e w' => (∃ z : Int, e = .returned (.int .i64 z)) ∧ w' = w
  | 0, _ => by
    go_enter Try.func74, Try.ntmps74
    go_wp2
    go_ret
    exact ⟨⟨_, rfl⟩, rfl⟩
  | 1, _ => by
    go_enter Try.func74, Try.ntmps74
    go_wp2
    go_ret
    exact ⟨⟨_, rfl⟩, rfl⟩
  | 2, _ => by
    go_enter Try.func74, Try.ntmps74
    go_wp2
    go_ret
    exact ⟨⟨_, rfl⟩, rfl⟩
  | 3, _ => by
    go_enter Try.func74, Try.ntmps74
    go_wp2
    go_ret
    exact ⟨⟨_, rfl⟩, rfl⟩
  | 4, _ => by
    go_enter Try.func74, Try.ntmps74
    go_wp2
    go_ret
    exact ⟨⟨_, rfl⟩, rfl⟩
  | 5, _ => by
    go_enter Try.func74, Try.ntmps74
    go_wp2
    go_ret
    exact ⟨⟨_, rfl⟩, rfl⟩
  | 6, _ => by
    go_enter Try.func74, Try.ntmps74
    go_wp2
    go_ret
    exact ⟨⟨_, rfl⟩, rfl⟩
  | 7, _ => by
    go_enter Try.func74, Try.ntmps74
    go_wp2
    go_ret
    exact ⟨⟨_, rfl⟩, rfl⟩
  | 8, _ => by
    go_enter Try.func74, Try.ntmps74
    go_wp2
    go_ret
    exact ⟨⟨_, rfl⟩, rfl⟩
  | 9, _ => by
    go_enter Try.func74, Try.ntmps74
    go_wp2
    go_ret
    exact ⟨⟨_, rfl⟩, rfl⟩
  | 10, _ => by
    go_enter Try.func74, Try.ntmps74
    go_wp2
    go_ret
    exact ⟨⟨_, rfl⟩, rfl⟩
  | 11, _ => by
    go_enter Try.func74, Try.ntmps74
    go_wp2
    go_ret
    exact ⟨⟨_, rfl⟩, rfl⟩
  | 12, _ => by
    go_enter Try.func74, Try.ntmps74
    go_wp2
    go_ret
    exact ⟨⟨_, rfl⟩, rfl⟩
  | n + 13, h => absurd h (by omega)
theorem len_any (w : World) (n : Nat) (h : n ≤ 12) : Calls Try.prog 61 #[.int .u64 (n : Int)] w fun e w' => (∃ z : Int, e = .returned (.int .i64 z)) ∧ w' = w := by
  have HL := hide (len64_any w n h)
  go_enter Try.func61, Try.ntmps61
  go_wp2_with (go_at_call 74; refine HL.out.mono ?_; rintro e w' ⟨⟨z, rfl⟩, hV⟩; obtain rfl := hV.symm; clear hV)
  go_ret
  exact ⟨⟨_, rfl⟩, rfl⟩
set_option maxHeartbeats 2000000 in
theorem pdq_any {w : World} {gp gf c : Nat} {L : List Frm} {Ps : List Nat} (hP : PtsAt w gp gf Ps) (hF : FrsAt w gf L) (hin : ∀ x ∈ Ps, x < L.length) (hne : gf ≠ gp) (hm : Ps.length ≤ 12) (z : Int) :
    Calls Try.prog 60 #[.slice (some ⟨gp, 0, none⟩) Ps.length c, .int .i64 0, .int .i64 (Ps.length : Int), .int .i64 z, .func (.func 50) #[] #[]] w fun e w' => e = .returned (.tuple #[]) ∧ ∃ Q : List Nat, Q.Perm Ps ∧ PtsAt w' gp gf Q ∧ Fr w w' (fun k => k = gp) := by
  have HI := hide (insertion_any (c := c) hP hF hin hne hm)
  obtain ⟨n, hn⟩ : ∃ n, n = Ps.length := ⟨_, rfl⟩
  rw [← hn] at hm HI ⊢
  clear hP hF hin hn hne
  go_enter Try.func60, Try.ntmps60
  go_wp2_with fail
  go_loopw [1, 2] (fun x y wr => x = .int .i64 0 ∧ y = .int .i64 (n : Int) ∧ wr = w) (fun _ _ _ => 0)
  case atStart => exact ⟨rfl, rfl, rfl⟩
  case round =>
    obtain ⟨rfl, rfl, rfl⟩ := hrel
    go_wp2_with (go_at_call 65; refine HI.out.mono ?_; rintro e W1 ⟨rfl, hQ⟩; have HQ := hide hQ; clear hQ)
    refine bodyPost_ret (results_none rfl _ _ _) rfl ?_
    exact ⟨rfl, HQ.out⟩
set_option maxHeartbeats 2000000 in
theorem sort_any {w : World} {gp gf c : Nat} {L : List Frm} {Ps : List Nat} (hP : PtsAt w gp gf Ps) (hF : FrsAt w gf L) (hin : ∀ x ∈ Ps, x < L.length) (hne : gf ≠ gp) (hm : Ps.length ≤ 12) :
    Calls Try.prog 49 #[.slice (some ⟨gp, 0, none⟩) Ps.length c, .func (.func 50) #[] #[]] w fun e w' => e = .returned (.tuple #[]) ∧ ∃ Q : List Nat, Q.Perm Ps ∧ PtsAt w' gp gf Q ∧ Fr w w' (fun k => k = gp) := by
  have HI := hide (fun z => pdq_any (c := c) hP hF hin hne hm z)
  obtain ⟨n, hn⟩ : ∃ n, n = Ps.length := ⟨_, rfl⟩
  rw [← hn] at hm HI ⊢
  have HL := hide (len_any w n hm)
  clear hP hF hin hn hne
  go_enter Try.func49, Try.ntmps49
  go_wp2_with (first
    | (go_at_call 61; refine HL.out.mono ?_; rintro e w' ⟨⟨z, rfl⟩, hV⟩; obtain rfl := hV.symm; clear hV)
    | (go_at_call 60; refine (HI.out _).mono ?_; rintro e W1 ⟨rfl, hQ⟩; have HQ := hide hQ; clear hQ))
  go_end0
  exact ⟨rfl, HQ.out⟩
theorem insertion_none (w : World) : Calls Try.prog 65 #[.slice none 0 0, .int .i64 0, .int .i64 0, .func (.func 50) #[] #[]] w fun e w' => e = .returned (.tuple #[]) ∧ w' = w := by
  go_enter Try.func65, Try.ntmps65
  go_wp2
  go_loopw [8] (fun i wr => i = .int .i64 1 ∧ wr = w) (fun _ _ => 0)
  case atStart => exact ⟨rfl, rfl⟩
  case round =>
    obtain ⟨rfl, rfl⟩ := hrel
    go_wp2
    go_end0
    exact ⟨rfl, rfl⟩
theorem pdq_none (w : World) (z : Int) : Calls Try.prog 60 #[.slice none 0 0, .int .i64 0, .int .i64 0, .int .i64 z, .func (.func 50) #[] #[]] w fun e w' => e = .returned (.tuple #[]) ∧ w' = w := by
  have HI := hide (insertion_none w)
  go_enter Try.func60, Try.ntmps60
  go_wp2_with fail
  go_loopw [1, 2] (fun x y wr => x = .int .i64 0 ∧ y = .int .i64 0 ∧ wr = w) (fun _ _ _ => 0)
  case atStart => exact ⟨rfl, rfl, rfl⟩
  case round =>
    obtain ⟨rfl, rfl, rfl⟩ := hrel
    go_wp2_with (go_at_call 65; refine HI.out.mono ?_; rintro e w' ⟨rfl, hV⟩; obtain rfl := hV.symm; clear hV)
    refine bodyPost_ret (results_none rfl _ _ _) rfl ?_
    exact ⟨rfl, rfl⟩
/-- None to be sorted. -/
theorem sort_none (w : World) : Calls Try.prog 49 #[.slice none 0 0, .func (.func 50) #[] #[]] w fun e w' => e = .returned (.tuple #[]) ∧ w' = w := by
  have HI := hide (fun z => pdq_none w z)
  have HL := hide (len_any w 0 (by omega))
  go_enter Try.func49, Try.ntmps49
  go_wp2_with (first
    | (go_at_call 61; refine HL.out.mono ?_; rintro e w' ⟨⟨z, rfl⟩, hV⟩; obtain rfl := hV.symm; clear hV)
    | (go_at_call 60; refine (HI.out _).mono ?_; rintro e w' ⟨rfl, hV⟩; obtain rfl := hV.symm; clear hV))
  go_end0
  exact ⟨rfl, rfl⟩
end Go.Proofs.Ytpjelmlbikmddaa

/- The changed frames, in the pages' order. -/
namespace Go.Proofs.Ytpjelmlbikmddaa
open Go.RowKit
set_option maxRecDepth 100000
set_option linter.unusedVariables false

def encP (gf : Nat) (Ps : List Nat) : List Value := Ps.map fun x => .pointer (some ⟨gf, x * 261, none⟩)
def OwnP (w : World) (v : Value) (gf : Nat) (Ps : List Nat) : Prop := w.ownsRow 0 81 1 v Ps.length (encP gf Ps)
theorem full81 : ∃ i, Try.prog.info? 81 = some i ∧ i.zero = some (.pointer none) ∧ i.size = 1 ∧ i.bytes = 8 := by
  have h0 : (Try.prog.info? 81).isSome = true := by kernel_rfl
  have h1 : (Try.prog.info? 81).bind (·.zero) = some (.pointer none) := by kernel_rfl
  have h2 : (Try.prog.info? 81).map (·.size) = some 1 := by kernel_rfl
  have h3 : (Try.prog.info? 81).map (·.bytes) = some 8 := by kernel_rfl
  obtain ⟨i, hi⟩ := Option.isSome_iff_exists.1 h0
  rw [hi] at h1 h2 h3
  exact ⟨i, hi, h1, by simpa using h2, by simpa using h3⟩
theorem length_encP (gf : Nat) (Ps : List Nat) : (encP gf Ps).length = Ps.length := by simp [encP]
theorem encP_oneCell (gf : Nat) (Ps : List Nat) : ∀ v ∈ encP gf Ps, v.oneCell' = true := by
  intro v hv
  obtain ⟨x, _, rfl⟩ := List.mem_map.1 hv
  rfl
theorem wpList_pushPt {w : World} {ops : Array Oper} {rest : List Oper} {o : Oper} {act : Act} {Q : Exit → Act → World → Prop} (hgd : o.guard = none) (s x : Operand)
    (ho : o.op = .call { callee := .builtin .append, args := #[s, x], argTypes := #[86, 86] }) (v : Value) (gf : Nat) (l : List Nat) (hs : act.eval s = v) (hown : OwnP w v gf l)
    (y : Nat) (g : Nat) (hx : act.eval x = .slice (some ⟨g, 0, none⟩) 1 1) (hg : w.heap.size = g) (hlen : l.length ≤ 4096)
    (h : ∀ v' w', OwnP w' v' gf (l ++ [y]) → Fr w w' (fun k => v.ownBlock = some k) → Fresh w v v' → wpList Try.prog ops Q rest (act.put o.dst v') w') : wpList Try.prog ops Q (o :: rest) act (w.alloc (.cells #[.pointer (some ⟨gf, y * 261, none⟩)] 81)) := by
  subst hg
  obtain ⟨i, hi, hz, hs5, hby⟩ := full81
  have A := Fr.alloc w (.cells #[.pointer (some ⟨gf, y * 261, none⟩)] 81) (fun _ => False)
  obtain ⟨v', w', hr, q1, q2, q3⟩ := run_append_gen (P := Try.prog) (w.alloc (.cells #[.pointer (some ⟨gf, y * 261, none⟩)] 81)) 86 o.type 81 i _ 1 8 Try.underlying86 hi hz hs5 hby rfl (by omega) v l.length (encP gf l) (ownsRow_fr hown A (by simp)) ⟨w.heap.size, 0, none⟩ 1 1 (encP gf [y]) (by rw [length_encP]; rfl)
    (fun j u hu => by rw [Addr.add_mid, cell_of_row _ _ _ _ _ _ (heap_alloc_new w _)]; match j with | 0 => exact hu | j + 1 => simp [encP] at hu) (encP_oneCell gf [y]) (by unfold maxLen; omega) (by omega)
  refine wpList_plain hgd fun _ hK => wp_append_to s x 86 ho _ rfl _ rfl _ _ hs hx _ _ hr (hK _ _ (h v' w' ?_ ?_ ?_))
  · unfold OwnP; rw [List.length_append, encP, List.map_append]; exact q1
  · exact (A.trans (Fr.grown q2)).mono (by rintro k _ (h1 | h1); exact h1.elim; exact h1)
  · rcases q3 with h1 | ⟨k, h1, h2⟩
    · exact .inl h1
    · exact .inr ⟨k, h1, by simp at h2; omega⟩
theorem OwnP.cases {w : World} {v : Value} {gf : Nat} {Ps : List Nat} (h : OwnP w v gf Ps) : (v = .slice none 0 0 ∧ Ps = []) ∨ ∃ gp c, v = .slice (some ⟨gp, 0, none⟩) Ps.length c ∧ PtsAt w gp gf Ps := by
  rcases h.2 with ⟨h1, h2⟩ | ⟨g, cap, cur, hv, _, hg, hle, _, hcs, htk⟩
  · exact .inl ⟨h1, List.eq_nil_of_length_eq_zero h2⟩
  · refine .inr ⟨g, cap, hv, fun j x hx => ?_, fun j => by simp [World.frozen?, hg], (Array.getElem?_eq_some_iff.1 hg).1⟩
    rw [cell_of_row _ _ _ _ _ _ hg, ← Array.getElem?_toList]
    have h3 : (encP gf Ps)[j]? = some (.pointer (some ⟨gf, x * 261, none⟩)) := by simp [encP, hx]
    rw [← htk, List.getElem?_take] at h3
    split at h3
    · exact h3
    · cases h3

/-- Which frames have changed, of the first k. -/
def chg (L : List Frm) (k : Nat) : List Nat := (List.range k).filter fun j => (L[j]?.map Frm.changed).getD false
theorem chg_succ (L : List Frm) (k : Nat) : chg L (k + 1) = chg L k ++ if (L[k]?.map Frm.changed).getD false then [k] else [] := by
  unfold chg
  rw [List.range_succ, List.filter_append]
  congr 1
  by_cases h : (L[k]?.map Frm.changed).getD false = true
  · rw [if_pos h]; simp [h]
  · rw [if_neg h]; simp [h]
theorem chg_length (L : List Frm) (k : Nat) : (chg L k).length ≤ k := by
  have := List.length_filter_le (fun j => (L[j]?.map Frm.changed).getD false) (List.range k)
  simpa [chg] using this
theorem chg_mem {L : List Frm} {k x : Nat} (h : x ∈ chg L k) : x < k ∧ ∃ G, L[x]? = some G ∧ G.changed = true := by
  obtain ⟨h1, h2⟩ := List.mem_filter.1 h
  refine ⟨List.mem_range.1 h1, ?_⟩
  cases hx : L[x]? with
  | none => rw [hx] at h2; cases h2
  | some G => rw [hx] at h2; exact ⟨G, rfl, h2⟩
theorem chg_of {L : List Frm} {x : Nat} {G : Frm} (h : L[x]? = some G) (hc : G.changed = true) : x ∈ chg L L.length :=
  List.mem_filter.2 ⟨List.mem_range.2 (List.getElem?_eq_some_iff.1 h).1, by rw [h]; exact hc⟩
theorem chg_nodup (L : List Frm) (k : Nat) : (chg L k).Nodup := List.Pairwise.filter _ List.nodup_range

/-- A row of pointers to frames, as a value. -/
def PV (w : World) (lo : Nat) (v : Value) (gf : Nat) (Q : List Nat) : Prop := (v = .slice none 0 0 ∧ Q = []) ∨ ∃ gp c, v = .slice (some ⟨gp, 0, none⟩) Q.length c ∧ PtsAt w gp gf Q ∧ lo ≤ gp

set_option maxHeartbeats 4000000 in
theorem changed_any {w : World} {p b first count gf c hand : Nat} {lv : Value} {L : List Frm} (h : PoolAt w p b first count gf L.length c hand lv) (hF : FrsAt w gf L) (hL : L.length ≤ 4096) (hgf : gf < w.heap.size) (hfew : (chg L L.length).length ≤ 12) :
    Calls Try.prog 34 #[.pointer (some ⟨p, 0, none⟩)] w fun e w' => ∃ v Q, e = .returned v ∧ Q.Perm (chg L L.length) ∧ PV w' w.heap.size v gf Q ∧ Fr w w' (fun _ => False) := by
  obtain ⟨n, hn⟩ : ∃ n, n = L.length := ⟨_, rfl⟩
  have y3 := h.c3
  have hpl := World.block_lt_of_cell? w _ h.c3
  rw [← hn] at hL y3 hfew ⊢
  have HN := hide hn
  have HF := hide hF
  have HFEW := hide hfew
  have HY3 := hide y3
  clear h hF hn hfew
  go_enter Try.func34, Try.ntmps34
  go_wp2
  clear y3
  go_loopw [3, 10] (fun v i wr => ∃ k : Nat, i = .int .i64 (k : Int) ∧ k ≤ n ∧ OwnP wr v gf (chg L k) ∧ (∀ q, v.ownBlock = some q → w.heap.size ≤ q) ∧ Fr w wr (fun _ => False)) (fun _ i _ => n - (intOf i).toNat)
  case atStart => exact ⟨0, rfl, by omega, World.ownsRow_nil w 0 81 1, fun q hq => by (cases hq), Fr.refl _ _⟩
  case round =>
    rename World => W
    obtain ⟨k, rfl, hk, ho, hq, hf⟩ := hrel
    have HO := hide ho
    have HQ := hide hq
    have HFW := hide hf
    have y3 : W.cell? ⟨p, 3, none⟩ = some (.slice (some ⟨gf, 0, none⟩) n c) := by rw [World.cell?_of_block (w := w) (hf.block p hpl (fun h => h))]; exact HY3.out
    have HFF := hide (HF.out.fr hf (fun h => h))
    clear ho hq hf
    by_cases hlt : k < n
    · obtain ⟨G, hG⟩ : ∃ G, L[k]? = some G := ⟨_, List.getElem?_eq_getElem (by rw [← HN.out]; exact hlt)⟩
      have hc := (HFF.out k G hG).changed
      have hs := chg_succ L k
      have hlk : (chg L k).length ≤ 4096 := by have := chg_length L k; omega
      rw [hG] at hs
      cases hch : G.changed with
      | true =>
        rw [hch] at hc
        have HS := hide (show chg L (k + 1) = chg L k ++ [k] by rw [hs]; simp [hch])
        clear hs hG hch
        go_wp2_with (refine wpList_pushPt rfl (.tmp 21) (.tmp 28) rfl u3 gf _ rfl HO.out k _ rfl rfl hlk ?_; intro v' W2 ho2 hf2 hr2; have HO2 := hide ho2; have HF2 := hide ((HFW.out.trans hf2).mono (Y := fun _ => False) (by intro q hq h; rcases h with h | h; exact h; have := HQ.out q h; omega)); have HQ2 := hide (hr2.le (B := w.heap.size) HFW.out.size HQ.out); clear ho2 hf2 hr2)
        go_roundw
        case rel => exact ⟨k + 1, by go_num, by omega, by rw [HS.out]; exact HO2.out, HQ2.out, HF2.out⟩
        case measure => simp [intOf]; omega
      | false =>
        rw [hch] at hc
        have HS := hide (show chg L (k + 1) = chg L k by rw [hs]; simp [hch])
        clear hs hG hch
        go_wp2
        go_roundw
        case rel => exact ⟨k + 1, by go_num, by omega, by rw [HS.out]; exact HO.out, HQ.out, HFW.out⟩
        case measure => simp [intOf]; omega
    · obtain rfl : k = n := by omega
      have hin : ∀ x ∈ chg L k, x < L.length := fun x hx => by rw [← HN.out]; exact (chg_mem hx).1
      have hgfW : gf < W.heap.size := Nat.lt_of_lt_of_le hgf HFW.out.size
      rcases HO.out.cases with ⟨hv, he⟩ | ⟨gp, cc, hv, hP⟩
      · subst hv
        have HSN := hide (sort_none W)
        have HE := hide he
        clear he hin
        go_wp2_with (go_at_call 49; refine HSN.out.mono ?_; rintro e w' ⟨rfl, hV⟩; obtain rfl := hV.symm; clear hV)
        go_ret
        exact ⟨_, [], rfl, by rw [HE.out], .inl ⟨rfl, rfl⟩, HFW.out⟩
      · subst hv
        have hgp := HQ.out gp rfl
        have HSA := hide (sort_any (c := cc) hP HFF.out hin (by omega) HFEW.out)
        obtain ⟨m, hm⟩ : ∃ m, m = (chg L k).length := ⟨_, rfl⟩
        rw [← hm] at HSA ⊢
        have HM := hide hm
        clear hP hin hm
        go_wp2_with (go_at_call 49; refine HSA.out.mono ?_; rintro e W2 ⟨rfl, Q, hQ, hP2, f2⟩; have HQ2 := hide hQ; have HP2 := hide hP2; have HF2 := hide ((HFW.out.trans f2).mono (Y := fun _ => False) (by intro q hq h; rcases h with h | h; exact h; omega)); clear hQ hP2 f2)
        go_ret
        exact ⟨_, Q, rfl, HQ2.out, .inr ⟨gp, cc, by rw [show Q.length = m by rw [HQ2.out.length_eq, HM.out]]; rfl, HP2.out, hgp⟩, HF2.out⟩
end Go.Proofs.Ytpjelmlbikmddaa

/- Flush. -/
namespace Go.Proofs.Ytpjelmlbikmddaa
open Go.RowKit
set_option maxRecDepth 100000
set_option linter.unusedVariables false

def clr (F : List Frm) (x : Nat) : List Frm := match F[x]? with | some G => F.set x { G with changed := false } | none => F
def clrs (F : List Frm) (Q : List Nat) : List Frm := Q.foldl clr F
def wrt (F : List Frm) (x : Nat) : Nat × List UInt8 := match F[x]? with | some G => (4 + G.page.toNat, G.data) | none => (0, [])
theorem clr_length (F : List Frm) (x : Nat) : (clr F x).length = F.length := by unfold clr; split <;> simp
theorem clrs_length (F : List Frm) (Q : List Nat) : (clrs F Q).length = F.length := by
  induction Q generalizing F with
  | nil => rfl
  | cons x Q ih => show (clrs (clr F x) Q).length = _; rw [ih, clr_length]
theorem clr_other {F : List Frm} {x y : Nat} (h : x ≠ y) : (clr F x)[y]? = F[y]? := by
  unfold clr; split
  · rw [List.getElem?_set_ne h]
  · rfl
theorem clrs_other {F : List Frm} {Q : List Nat} {y : Nat} (h : y ∉ Q) : (clrs F Q)[y]? = F[y]? := by
  induction Q generalizing F with
  | nil => rfl
  | cons x Q ih =>
    have h1 : x ≠ y := fun e => h (by simp [e])
    show (clrs (clr F x) Q)[y]? = _
    rw [ih (fun h2 => h (by simp [h2])), clr_other h1]
theorem clrs_snoc (F : List Frm) (Q : List Nat) (x : Nat) : clrs F (Q ++ [x]) = clr (clrs F Q) x := by unfold clrs; rw [List.foldl_append]; rfl
theorem clr_at {F : List Frm} {x : Nat} {G : Frm} (h : F[x]? = some G) : clr F x = F.set x { G with changed := false } := by unfold clr; rw [h]

theorem take_nodup {Q : List Nat} {k x : Nat} (hn : Q.Nodup) (hx : Q[k]? = some x) : x ∉ Q.take k := by
  intro hm
  obtain ⟨i, hi, he⟩ := List.mem_iff_getElem.1 hm
  obtain ⟨hk, hxe⟩ := List.getElem?_eq_some_iff.1 hx
  rw [List.length_take] at hi
  rw [List.getElem_take] at he
  have := (List.getElem_inj (h₀ := by omega) (h₁ := hk) hn).1 (he.trans hxe.symm)
  omega

theorem Pb.sync {w : World} {p b gs g gf gl lc : Nat} {pv : Value} {tb : Option Nat} {hand : Nat} {F : List Frm} {S : List (List UInt8)} {L : List (Nat × List UInt8)} (h : Pb w p b gs g gf gl lc pv tb hand F S L) :
    Calls Try.prog 37 #[.pointer (some ⟨b, 0, none⟩)] w fun e w' => e = .returned (.int .i64 L.length) ∧ Pb w' p b gs g gf gl lc (.slice none 0 0) tb hand F (laysTo S L (fun _ => some 256) L.length) [] ∧ Fr w w' (fun k => k = gs ∨ k = b) := by
  obtain ⟨cs, Cs, ta, tc, sum, h1, h2⟩ := h.bare
  obtain ⟨a1, a2, a3, a4, a5⟩ := h.n1
  obtain ⟨b1, b2, b3, b4⟩ := h.n2
  obtain ⟨c1, c2, c3⟩ := h.n3
  refine (sync_any h1.disk (by have := h1.few; omega)).mono ?_
  rintro e w' ⟨rfl, Cs', d1, f1⟩
  have hX : ∀ q, q ≠ b → q ≠ gs → ¬ (fun k => k = gs ∨ k = b) q := fun q h1 h2 h3 => h3.elim h2 h1
  refine ⟨rfl, ⟨h.pool.fr f1 (hX _ a1 a2), h.frs.fr f1 (hX _ b1 b2), ?_, ⟨cs, Cs', ta, tc, sum, ⟨d1, h1.log.fr f1 (hX _ h1.gb h1.gg), h1.own.fr f1 (fun q hq => hX _ (h1.tb q hq).1 (h1.tb q hq).2.1), h1.tg, fun q hq => ⟨(h1.tb q hq).1, (h1.tb q hq).2.1, fun h => by cases h⟩, h1.gb, h1.gg, (fun h => by cases h), by rw [laysTo_length]; exact h1.fits, by rw [laysTo_length]; exact h1.small, by simp⟩, h2⟩, h.hn, h.hF, by rw [laysTo_length]; exact h.s12, h.n1, h.n2, h.n3, fun q hq => by (cases hq), h.tbx⟩, f1⟩
  rw [World.cell?_of_block (w := w) (f1.block gl (World.block_lt_of_cell? w _ h.lg) (hX _ c1 c2))]; exact h.lg

def FlushOut (w : World) (p b gs g gf gl lc : Nat) (pv : Value) (tb : Option Nat) (hand : Nat) (F : List Frm) (S : List (List UInt8)) (L : List (Nat × List UInt8)) (e : Ending) (w' : World) : Prop :=
  e = .returned (.tuple #[]) ∧ ∃ Q : List Nat, Q.Perm (chg F F.length) ∧ Pb w' p b gs g gf gl lc (.slice none 0 0) tb hand (clrs F Q) (laysTo S (L ++ Q.map (wrt F)) (fun _ => some 256) (L ++ Q.map (wrt F)).length) [] ∧ Fr w w' (fun k => k = gf ∨ k = b ∨ k = gs ∨ pv.ownBlock = some k)

set_option maxHeartbeats 4000000 in
theorem flush_any {w : World} {p b gs g gf gl lc : Nat} {pv : Value} {tb : Option Nat} {hand : Nat} {F : List Frm} {S : List (List UInt8)} {L : List (Nat × List UInt8)} (h : Pb w p b gs g gf gl lc pv tb hand F S L)
    (hpg : ∀ (j : Nat) (G : Frm), F[j]? = some G → G.changed = true → 0 ≤ G.page ∧ G.page < 8) (hfew : (chg F F.length).length ≤ 12) (hL : L.length + 13 ≤ 1048576) :
    Calls Try.prog 19 #[.pointer (some ⟨p, 0, none⟩)] w fun e w' => FlushOut w p b gs g gf gl lc pv tb hand F S L e w' := by
  have HC := hide (changed_any h.pool h.frs h.hF h.gflt hfew)
  have HP0 := hide h
  have HPG := hide hpg
  have HFW0 := hide hfew
  have hpvl : ∀ q, pv.ownBlock = some q → q < w.heap.size := by obtain ⟨cs, Cs, ta, tc, sum, h1, h2⟩ := h.bare; exact h1.disk.bl.2.2
  have hbl : b < w.heap.size := by obtain ⟨cs, Cs, ta, tc, sum, h1, h2⟩ := h.bare; exact h1.disk.bl.1
  have hgfl := h.gflt
  have HPVL := hide hpvl
  clear h hpg hfew hpvl
  go_enter Try.func19, Try.ntmps19
  go_wp2_with fail
  refine HC.out.mono ?_
  rintro e W1 ⟨v, Q, rfl, hQ, hv, f1⟩
  have HQ := hide hQ
  have HF1 := hide f1
  have HP1 := hide (HP0.out.fr f1)
  have hs1 := f1.size
  clear hQ f1 HC HP0
  rcases hv with ⟨rfl, rfl⟩ | ⟨gp, cc, rfl, hPt, hgp⟩
  · go_wp2_with fail
    go_loopw [3, 12] (fun m i wr => ∃ mk : Int, i = .int .i64 0 ∧ m = .int .i64 mk ∧ wr = W1) (fun _ _ _ => 0)
    case atStart => exact ⟨0, rfl, rfl, rfl⟩
    case round =>
      obtain ⟨mk, rfl, rfl, rfl⟩ := hrel
      go_wp2_with fail
      refine (HP1.out.force mk).mono ?_
      rintro e W2 ⟨rfl, f2⟩
      have HP2 := hide (HP1.out.fr f2)
      have HF2 := hide ((HF1.out.trans f2).mono (Y := fun _ => False) (by simp))
      have y0 := HP2.out.pool.c0
      clear f2 HP1 HF1
      go_wp2_with fail
      go_loopw [28] (fun i wr => i = .int .i64 0 ∧ wr = W2) (fun _ _ => 0)
      case atStart => exact ⟨rfl, rfl⟩
      case round =>
        obtain ⟨rfl, rfl⟩ := hrel
        go_wp2_with (go_at_call 37; refine HP2.out.sync.mono ?_; rintro e W3 ⟨rfl, hP3, f3⟩; have HP3 := hide hP3; have HF3 := hide f3; clear hP3 f3)
        go_end0
        exact ⟨rfl, [], HQ.out, by simpa [clrs] using HP3.out, (HF2.out.trans HF3.out).mono (by intro q _ h; rcases h with h | h | h; exact h.elim; exact .inr (.inr (.inl h)); exact .inr (.inl h))⟩
  · obtain ⟨n, hn⟩ : ∃ n, n = Q.length := ⟨_, rfl⟩
    rw [← hn]
    have HN := hide hn
    have HPt := hide hPt
    have hgl1 := hPt.lt
    have hn12 : n ≤ 12 := by rw [hn, HQ.out.length_eq]; exact HFW0.out
    clear hn hPt
    go_wp2_with fail
    go_loopw [3, 12] (fun m i wr => ∃ (k : Nat) (mk : Int), i = .int .i64 (k : Int) ∧ k ≤ n ∧ m = .int .i64 mk ∧ wr = W1) (fun _ i _ => n - (intOf i).toNat)
    case atStart => exact ⟨0, 0, rfl, by omega, rfl, rfl⟩
    case round =>
      obtain ⟨k, mk, rfl, hk, rfl, rfl⟩ := hrel
      by_cases hlt : k < n
      · obtain ⟨x, hx⟩ : ∃ x, Q[k]? = some x := ⟨_, List.getElem?_eq_getElem (by rw [← HN.out]; exact hlt)⟩
        obtain ⟨_, G, hG, _⟩ := chg_mem (HQ.out.mem_iff.1 (List.mem_of_getElem? hx))
        have y1 := HPt.out.at_ k x hx
        have y2 := (HP1.out.frs x G hG).mark
        clear hx hG
        go_wp2
        all_goals
          go_roundw
          case rel => exact ⟨k + 1, _, by go_num, by omega, rfl, by first | rfl | trivial⟩
          case measure => simp [intOf]; omega
      · obtain rfl : n = k := by omega
        go_wp2_with fail
        refine (HP1.out.force mk).mono ?_
        rintro e W2 ⟨rfl, f2⟩
        have HP2 := hide (HP1.out.fr f2)
        have HF2 := hide ((HF1.out.trans f2).mono (Y := fun _ => False) (by simp))
        have HPt2 := hide (HPt.out.fr f2 (fun h => h))
        clear f2 HP1 HF1 HPt
        go_wp2_with fail
        go_loopw [28] (fun i wr => ∃ (k : Nat) (pv1 : Value), i = .int .i64 (k : Int) ∧ k ≤ n ∧ Pb wr p b gs g gf gl lc pv1 tb hand (clrs F (Q.take k)) S (L ++ (Q.take k).map (wrt F)) ∧ pv1.ownBlock ≠ some gp ∧ PtsAt wr gp gf Q ∧ Fr w wr (fun q => q = gf ∨ q = b ∨ pv.ownBlock = some q) ∧ ∀ q, pv1.ownBlock = some q → pv.ownBlock = some q ∨ w.heap.size ≤ q) (fun i _ => n - (intOf i).toNat)
        case atStart => exact ⟨0, pv, rfl, by omega, by simpa [clrs] using HP2.out, fun h => by { have := HPVL.out gp h; omega }, HPt2.out, HF2.out.mono (fun _ _ h => h.elim), fun q h => .inl h⟩
        case round =>
          rename World => W
          obtain ⟨k, pv1, rfl, hk, hP, hpg1, hpt, hf, hpv⟩ := hrel
          have HP := hide hP
          have HPt := hide hpt
          have HFW := hide hf
          have HPV := hide hpv
          have HG1 := hide hpg1
          clear hP hpt hf hpv hpg1 HP2 HF2 HPt2
          by_cases hlt : k < n
          · obtain ⟨x, hx⟩ : ∃ x, Q[k]? = some x := ⟨_, List.getElem?_eq_getElem (by rw [← HN.out]; exact hlt)⟩
            obtain ⟨_, G, hG, hch⟩ := chg_mem (HQ.out.mem_iff.1 (List.mem_of_getElem? hx))
            have hnd : Q.Nodup := HQ.out.nodup_iff.2 (chg_nodup _ _)
            have hnx : x ∉ Q.take k := take_nodup hnd hx
            have HGx := hide (show (clrs F (Q.take k))[x]? = some G by rw [clrs_other hnx]; exact hG)
            have y1 := HPt.out.at_ k x hx
            obtain ⟨i, hi, hi8⟩ : ∃ i : Nat, G.page = (i : Int) ∧ i < 8 := by have := HPG.out x G hG hch; exact ⟨G.page.toNat, by omega, by omega⟩
            have hlen : G.data.length = 256 := (HP.out.frs x _ HGx.out).len
            have HI := hide (show (Try.prog.info? 70).map (·.size) = some (enc G.data).length by rw [length_enc, hlen]; exact info70b)
            have HTK := hide (show Q.take (k + 1) = Q.take k ++ [x] by rw [List.take_add_one, hx]; rfl)
            have HWR := hide (show wrt F x = (4 + i, G.data) by unfold wrt; rw [hG]; show (4 + G.page.toNat, G.data) = _; rw [hi]; rfl)
            have HFEW := hide (show (L ++ (Q.take k).map (wrt F)).length + 1 ≤ 1048576 by simp; omega)
            clear hx hG hch hnd hnx
            go_wp2_with fail
            refine wp_region_K (fun _ => true) (fun V => V.cell? ⟨gf, x * 261, none⟩ = some (.int .i64 G.page) ∧ V.rangeAt gf (x * 261 + 1) (enc G.data)) (by kernel_rfl) ?_
            have hP3 := HP.out.fr (Fr.drew W (fun _ => False))
            have hF3 := (HFW.out.trans (Fr.drew W (fun _ => False))).mono (Y := fun k => k = gf ∨ k = b ∨ pv.ownBlock = some k) (by intro k _ h; rcases h with h | h; exact h; exact h.elim)
            have hPt3 := HPt.out.fr (Fr.drew W (fun _ => False)) (fun h => h)
            have hS : (fun V : World => V.cell? ⟨gf, x * 261, none⟩ = some (.int .i64 G.page) ∧ V.rangeAt gf (x * 261 + 1) (enc G.data)) W.drew := ⟨(hP3.frs x _ HGx.out).page, (hP3.frs x _ HGx.out).data⟩
            generalize W.drew = W3 at *
            refine wpAnyK_takeTo 0 (some 32) (.pointer (some ⟨p, 0, none⟩)) [] rfl rfl (by kernel_rfl) (by kernel_rfl) (by kernel_rfl) (by kernel_rfl) (fun _ _ _ h => h) hS (Or.inl ⟨rfl, fun w1 hw1 => by go_simp⟩) ?_
            simp only [Act.put, List.setIfInBounds_toArray, List.set_cons_zero, List.set_cons_succ]
            refine wpAnyK_takeTo 1 (some 33) (.pointer (some ⟨p, 0, none⟩)) [] rfl rfl (by kernel_rfl) (by kernel_rfl) (by kernel_rfl) (by kernel_rfl) (fun _ _ _ h => h) hS (Or.inl ⟨rfl, fun w1 hw1 => by go_simp⟩) ?_
            simp only [Act.put, List.setIfInBounds_toArray, List.set_cons_zero, List.set_cons_succ]
            refine wpAnyK_takeTo 2 (some 34) (.pointer (some ⟨p, 0, none⟩)) [] rfl rfl (by kernel_rfl) (by kernel_rfl) (by kernel_rfl) (by kernel_rfl) (fun _ _ _ h => h) hS (Or.inl ⟨rfl, fun w1 hw1 => by go_simp⟩) ?_
            simp only [Act.put, List.setIfInBounds_toArray, List.set_cons_zero, List.set_cons_succ]
            refine wpAnyK_takeTo 3 (some 35) (.pointer (some ⟨gf, x * 261, none⟩)) [] rfl rfl (by kernel_rfl) (by kernel_rfl) (by kernel_rfl) (by kernel_rfl) (fun _ _ _ h => h) hS (Or.inl ⟨rfl, fun w1 hw1 => by go_simp⟩) ?_
            simp only [Act.put, List.setIfInBounds_toArray, List.set_cons_zero, List.set_cons_succ]
            refine wpAnyK_takeTo 4 (some 36) (.pointer (some ⟨gf, x * 261, none⟩)) [] rfl rfl (by kernel_rfl) (by kernel_rfl) (by kernel_rfl) (by kernel_rfl) (fun _ _ _ h => h) hS (Or.inl ⟨rfl, fun w1 hw1 => by go_simp⟩) ?_
            simp only [Act.put, List.setIfInBounds_toArray, List.set_cons_zero, List.set_cons_succ]
            refine wpAnyK_takeTo 5 (some 37) (.pointer (some ⟨gf, x * 261, none⟩)) [] rfl rfl (by kernel_rfl) (by kernel_rfl) (by kernel_rfl) (by kernel_rfl) (fun _ _ _ h => h) hS (Or.inl ⟨rfl, fun w1 hw1 => by go_simp⟩) ?_
            simp only [Act.put, List.setIfInBounds_toArray, List.set_cons_zero, List.set_cons_succ]
            refine wpAnyK_takeTo 6 (some 38) (.int .i64 G.page) [] rfl rfl (by kernel_rfl) (by kernel_rfl) (by kernel_rfl) (by kernel_rfl) (fun _ _ _ h => h) hS (Or.inl ⟨rfl, fun w1 hw1 => by obtain ⟨x3, x4⟩ := hw1; go_simp⟩) ?_
            simp only [Act.put, List.setIfInBounds_toArray, List.set_cons_zero, List.set_cons_succ]
            refine wpAnyK_takeTo 7 (some 39) (.pointer (some ⟨gf, x * 261, none⟩)) [] rfl rfl (by kernel_rfl) (by kernel_rfl) (by kernel_rfl) (by kernel_rfl) (fun _ _ _ h => h) hS (Or.inl ⟨rfl, fun w1 hw1 => by go_simp⟩) ?_
            simp only [Act.put, List.setIfInBounds_toArray, List.set_cons_zero, List.set_cons_succ]
            refine wpAnyK_takeTo 8 (some 40) (.pointer (some ⟨gf, x * 261, none⟩)) [] rfl rfl (by kernel_rfl) (by kernel_rfl) (by kernel_rfl) (by kernel_rfl) (fun _ _ _ h => h) hS (Or.inl ⟨rfl, fun w1 hw1 => by go_simp⟩) ?_
            simp only [Act.put, List.setIfInBounds_toArray, List.set_cons_zero, List.set_cons_succ]
            refine wpAnyK_takeTo 9 (some 41) (.pointer (some ⟨gf, x * 261 + 1, none⟩)) [] rfl rfl (by kernel_rfl) (by kernel_rfl) (by kernel_rfl) (by kernel_rfl) (fun _ _ _ h => h) hS (Or.inl ⟨rfl, fun w1 hw1 => by go_simp⟩) ?_
            simp only [Act.put, List.setIfInBounds_toArray, List.set_cons_zero, List.set_cons_succ]
            refine wpAnyK_takeTo 10 (some 42) (.agg (enc G.data).toArray) [] rfl rfl (by kernel_rfl) (by kernel_rfl) (by kernel_rfl) (by kernel_rfl) (fun _ _ _ h => h) hS (yieldsIf_load_mid rfl 70 (.tmp 41) rfl gf (x * 261 + 1) rfl (enc G.data) (.array 256 5) (fun _ h => h.2) Try.underlying70 rfl HI.out) ?_
            simp only [Act.put, List.setIfInBounds_toArray, List.set_cons_zero, List.set_cons_succ]
            refine wpAnyK_one (i := 11) (by kernel_rfl) rfl rfl ?_
            refine wp_call_to (some 43) rfl 36 #[.pointer (some ⟨p, 0, none⟩), .int .i64 G.page, .agg (enc G.data).toArray] (by go_simp) (by rw [hi]; exact hP3.write i hi8 G.data hlen HFEW.out) ?_
            rintro e W4 ⟨rfl, pv2, hP4, hpv2, f4⟩
            refine ⟨_, rfl, ⟨fun _ => ⟨(hP4.frs x _ HGx.out).page, (hP4.frs x _ HGx.out).data⟩, ?_⟩⟩
            refine wpAnyK_done (by kernel_rfl) ?_ _
            have HPt4 := hide (hPt3.fr f4 (fun h => by rcases h with h | h; omega; exact HG1.out h))
            have z4 := (hP4.frs x G HGx.out).z (x * 261 + 259)
            have y4 := (hP4.frs x G HGx.out).changed
            have HP5 := hide (hP4.step (F' := (clrs F (Q.take k)).set x { G with changed := false }) (Fr.setCell W4 ⟨gf, x * 261 + 259, none⟩ (.bool false)) (hP4.frs.put x _ ((hP4.frs x G HGx.out).setChanged false) (fun o G' ho hG' => hG'.apart _ _ (by omega))) (by simp))
            have HPt5 := hide (HPt4.out.fr (Fr.setCell W4 ⟨gf, x * 261 + 259, none⟩ (.bool false)) (fun h => by have h : gp = gf := h; omega))
            have hs3 := hF3.size
            have HF5 := hide (((hF3.trans f4).trans (Fr.setCell W4 ⟨gf, x * 261 + 259, none⟩ (.bool false))).mono (Y := fun q => q = gf ∨ q = b ∨ pv.ownBlock = some q) (by
              intro q hq h
              rcases h with (h | h | h) | h
              · exact h
              · exact .inr (.inl h)
              · rcases HPV.out q h with h2 | h2
                · exact .inr (.inr h2)
                · omega
              · exact .inl h))
            have HPV5 := hide (show ∀ q, pv2.ownBlock = some q → pv.ownBlock = some q ∨ w.heap.size ≤ q from fun q hq => by
              rcases hpv2 with h2 | ⟨q2, h2, h3⟩
              · exact HPV.out q (h2 ▸ hq)
              · rw [hq] at h2; cases h2; exact .inr (by omega))
            have HG5 := hide (show pv2.ownBlock ≠ some gp from fun hq => by
              rcases hpv2 with h2 | ⟨q2, h2, h3⟩
              · exact HG1.out (h2 ▸ hq)
              · rw [hq] at h2; cases h2; have := hPt3.lt; omega)
            clear hS hP3 hF3 hPt3 hP4 f4 hpv2 HP HPt HFW
            go_wp2_with fail
            refine ⟨⟨k + 1, pv2, by simp, by omega, ?_, HG5.out, HPt5.out, HF5.out, HPV5.out⟩, by simp [intOf]; omega⟩
            rw [HTK.out, clrs_snoc, clr_at HGx.out, List.map_append, ← List.append_assoc]
            show Pb _ p b gs g gf gl lc pv2 tb hand _ S (L ++ List.map (wrt F) (List.take k Q) ++ [wrt F x])
            rw [HWR.out]
            exact HP5.out
          · obtain rfl : k = n := by omega
            have y0 := HP.out.pool.c0
            have HTK := hide (show Q.take k = Q by rw [HN.out, List.take_length])
            rw [HTK.out] at HP
            go_wp2_with (go_at_call 37; refine HP.out.sync.mono ?_; rintro e W3 ⟨rfl, hP3, f3⟩; have HP3 := hide hP3; have HF3 := hide f3; clear hP3 f3)
            go_end0
            refine ⟨rfl, Q, HQ.out, HP3.out, (HFW.out.trans HF3.out).mono (by intro q _ h; rcases h with (h | h | h) | h | h; exact .inl h; exact .inr (.inl h); exact .inr (.inr (.inr h)); exact .inr (.inr (.inl h)); exact .inr (.inl h))⟩
end Go.Proofs.Ytpjelmlbikmddaa

/- What a pool's frames hold, plainly. -/
namespace Go.Proofs.Ytpjelmlbikmddaa
open Go.RowKit
set_option maxRecDepth 100000
set_option linter.unusedVariables false

theorem seekP_no {L : List Frm} {page : Int} (h : seekP L page = none) {j : Nat} {F : Frm} (hj : L[j]? = some F) : F.page ≠ page := by
  have := (List.findIdx?_eq_none_iff.1 h) F (List.mem_of_getElem? hj)
  simpa using this

/-- What lies in the frames and on the disk, against what each page should hold. -/
structure Inv (F : List Frm) (S : List (List UInt8)) (L : List (Nat × List UInt8)) (La : List (List UInt8)) (pn : Nat → Nat) : Prop where
  ln : La.length = 8
  one : ∀ (j k : Nat) (G H : Frm), F[j]? = some G → F[k]? = some H → G.page = H.page → 0 ≤ G.page → j = k
  rng : ∀ (j : Nat) (G : Frm), F[j]? = some G → (G.page = -1 ∧ G.changed = false) ∨ (0 ≤ G.page ∧ G.page < 8)
  pins : ∀ (j : Nat) (G : Frm), F[j]? = some G → G.pins = pn j
  cln : ∀ (j : Nat) (G : Frm), F[j]? = some G → 0 ≤ G.page → G.changed = false → G.data = latestOf S L (4 + G.page.toNat)
  inn : ∀ (j : Nat) (G : Frm), F[j]? = some G → 0 ≤ G.page → La[G.page.toNat]? = some G.data
  out : ∀ i : Nat, i < 8 → (∀ (j : Nat) (G : Frm), F[j]? = some G → G.page ≠ (i : Int)) → La[i]? = some (latestOf S L (4 + i))

theorem Inv.calm {F F1 : List Frm} {S : List (List UInt8)} {L : List (Nat × List UInt8)} {La : List (List UInt8)} {pn : Nat → Nat} (h : Inv F S L La pn) (hc : F1.map calm = F.map calm) : Inv F1 S L La pn := by
  have key := fun (j : Nat) (G : Frm) (hG : F1[j]? = some G) => calm_at hc hG
  refine ⟨h.ln, fun j k G H hG hH hp h0 => ?_, fun j G hG => ?_, fun j G hG => ?_, fun j G hG h0 hn => ?_, fun j G hG h0 => ?_, fun i hi hno => h.out i hi fun j G0 hG0 => ?_⟩
  · obtain ⟨G0, g1, g2⟩ := key j G hG
    obtain ⟨H0, h1, h2⟩ := key k H hH
    exact h.one j k G0 H0 g1 h1 (by rw [← calm_page g2, ← calm_page h2, hp]) (by rw [← calm_page g2]; exact h0)
  · obtain ⟨G0, g1, g2⟩ := key j G hG
    rw [calm_page g2, calm_changed g2]
    exact h.rng j G0 g1
  · obtain ⟨G0, g1, g2⟩ := key j G hG
    rw [calm_pins g2]
    exact h.pins j G0 g1
  · obtain ⟨G0, g1, g2⟩ := key j G hG
    rw [calm_page g2] at h0 ⊢
    rw [calm_changed g2] at hn
    rw [calm_data g2]
    exact h.cln j G0 g1 h0 hn
  · obtain ⟨G0, g1, g2⟩ := key j G hG
    rw [calm_page g2] at h0 ⊢
    rw [calm_data g2]
    exact h.inn j G0 g1 h0
  · obtain ⟨G, g1, g2⟩ := calm_at hc.symm hG0
    rw [calm_page g2]
    exact hno j G g1

/-- A page that was in no frame comes into one. -/
theorem Inv.come {F : List Frm} {S : List (List UInt8)} {L L' : List (Nat × List UInt8)} {La : List (List UInt8)} (h : Inv F S L La (fun _ => 0)) {j : Nat} {G : Frm} (hG : F[j]? = some G) {i : Nat} (hi : i < 8) (hno : ∀ (k : Nat) (H : Frm), F[k]? = some H → H.page ≠ (i : Int))
    (h1 : ∀ k : Nat, k < 8 → (k : Int) ≠ G.page → latestOf S L' (4 + k) = latestOf S L (4 + k)) (h2 : 0 ≤ G.page → latestOf S L' (4 + G.page.toNat) = G.data) :
    Inv (F.set j ⟨(i : Int), latestOf S L' (4 + i), 1, true, false, 0⟩) S L' La (fun k => if k = j then 1 else 0) := by
  have hj := (List.getElem?_eq_some_iff.1 hG).1
  have key : ∀ (k : Nat) (H : Frm), (F.set j ⟨(i : Int), latestOf S L' (4 + i), 1, true, false, 0⟩)[k]? = some H → (k = j ∧ H = ⟨(i : Int), latestOf S L' (4 + i), 1, true, false, 0⟩) ∨ (k ≠ j ∧ F[k]? = some H) := by
    intro k H hH
    by_cases hk : j = k
    · subst hk; rw [List.getElem?_set_self hj] at hH; cases hH; exact .inl ⟨rfl, rfl⟩
    · rw [List.getElem?_set_ne hk] at hH; exact .inr ⟨fun h => hk h.symm, hH⟩
  have hil : (i : Int) ≠ G.page := fun e => hno j G hG e.symm
  have hLi : La[i]? = some (latestOf S L' (4 + i)) := by rw [h1 i hi hil]; exact h.out i hi hno
  refine ⟨h.ln, fun a b A B hA hB hp h0 => ?_, fun a A hA => ?_, fun a A hA => ?_, fun a A hA h0 hn => ?_, fun a A hA h0 => ?_, fun k hk hnk => ?_⟩
  · rcases key a A hA with ⟨rfl, rfl⟩ | ⟨ha, hA⟩
    · rcases key b B hB with ⟨rfl, rfl⟩ | ⟨hb, hB⟩
      · rfl
      · exact absurd hp.symm (hno b B hB)
    · have hA' := hA
      rcases key b B hB with ⟨rfl, rfl⟩ | ⟨hb, hB⟩
      · exact absurd hp (hno a A hA')
      · exact h.one a b A B hA' hB hp h0
  · rcases key a A hA with ⟨rfl, rfl⟩ | ⟨ha, hA⟩
    · exact .inr ⟨by show (0 : Int) ≤ (i : Int); omega, by show (i : Int) < 8; omega⟩
    · exact h.rng a A hA
  · rcases key a A hA with ⟨rfl, rfl⟩ | ⟨ha, hA⟩
    · simp
    · rw [if_neg ha]; exact h.pins a A hA
  · rcases key a A hA with ⟨rfl, rfl⟩ | ⟨ha, hA⟩
    · show latestOf S L' (4 + i) = latestOf S L' (4 + ((i : Int)).toNat); rw [Int.toNat_natCast]
    · have hr := h.rng a A hA
      have hne : (A.page.toNat : Int) ≠ G.page := fun e => ha (h.one a j A G hA hG (by omega) h0)
      rw [h1 _ (by omega) hne]
      exact h.cln a A hA h0 hn
  · rcases key a A hA with ⟨rfl, rfl⟩ | ⟨ha, hA⟩
    · show La[((i : Int)).toNat]? = some (latestOf S L' (4 + i)); rw [Int.toNat_natCast]; exact hLi
    · exact h.inn a A hA h0
  · have hki : k ≠ i := fun e => hnk j _ (List.getElem?_set_self hj) (by rw [e])
    by_cases hkG : (k : Int) = G.page
    · have h3 := h.inn j G hG (by omega)
      have h4 := h2 (by omega)
      have : G.page.toNat = k := by omega
      rw [this] at h3 h4
      rw [h4]; exact h3
    · rw [h1 k hk hkG]
      refine h.out k hk fun a A hA e => ?_
      by_cases ha : a = j
      · subst ha; rw [hG] at hA; cases hA; exact hkG e.symm
      · exact hnk a A (by rw [List.getElem?_set_ne (fun e => ha e.symm)]; exact hA) e

/-- A page that is in a frame is pinned. -/
theorem Inv.pin {F : List Frm} {S : List (List UInt8)} {L : List (Nat × List UInt8)} {La : List (List UInt8)} {pn pn' : Nat → Nat} (h : Inv F S L La pn) {j : Nat} {G G' : Frm} (hG : F[j]? = some G) (e1 : G'.page = G.page) (e2 : G'.data = G.data) (e3 : G'.changed = G.changed) (e4 : G'.pins = pn' j) (e5 : ∀ k, k ≠ j → pn' k = pn k) :
    Inv (F.set j G') S L La pn' := by
  have hj := (List.getElem?_eq_some_iff.1 hG).1
  have key : ∀ (k : Nat) (H : Frm), (F.set j G')[k]? = some H → ∃ H0, F[k]? = some H0 ∧ H.page = H0.page ∧ H.data = H0.data ∧ H.changed = H0.changed ∧ H.pins = (if k = j then pn' j else H0.pins) := by
    intro k H hH
    by_cases hk : j = k
    · subst hk; rw [List.getElem?_set_self hj] at hH; cases hH; exact ⟨G, hG, e1, e2, e3, by simp [e4]⟩
    · rw [List.getElem?_set_ne hk] at hH; exact ⟨H, hH, rfl, rfl, rfl, by rw [if_neg (fun h => hk h.symm)]⟩
  refine ⟨h.ln, fun a b A B hA hB hp h0 => ?_, fun a A hA => ?_, fun a A hA => ?_, fun a A hA h0 hn => ?_, fun a A hA h0 => ?_, fun k hk hnk => ?_⟩
  · obtain ⟨A0, a1, a2, _⟩ := key a A hA
    obtain ⟨B0, b1, b2, _⟩ := key b B hB
    exact h.one a b A0 B0 a1 b1 (by rw [← a2, ← b2, hp]) (by rw [← a2]; exact h0)
  · obtain ⟨A0, a1, a2, a3, a4, a5⟩ := key a A hA
    rw [a2, a4]; exact h.rng a A0 a1
  · obtain ⟨A0, a1, a2, a3, a4, a5⟩ := key a A hA
    rw [a5]
    split
    · subst_vars; rfl
    · rw [h.pins a A0 a1, e5 a (by assumption)]
  · obtain ⟨A0, a1, a2, a3, a4, a5⟩ := key a A hA
    rw [a3, a2]; exact h.cln a A0 a1 (by rw [← a2]; exact h0) (by rw [← a4]; exact hn)
  · obtain ⟨A0, a1, a2, a3, a4, a5⟩ := key a A hA
    rw [a3, a2]; exact h.inn a A0 a1 (by rw [← a2]; exact h0)
  · refine h.out k hk fun a A hA e => ?_
    by_cases ha : j = a
    · subst ha; rw [hG] at hA; cases hA; exact hnk j G' (List.getElem?_set_self hj) (by rw [e1]; exact e)
    · exact hnk a A (by rw [List.getElem?_set_ne ha]; exact hA) e

/-- Other bytes are put into a page. -/
theorem Inv.put {F : List Frm} {S : List (List UInt8)} {L : List (Nat × List UInt8)} {La : List (List UInt8)} {pn : Nat → Nat} (h : Inv F S L La pn) {j : Nat} {G : Frm} (hG : F[j]? = some G) {i : Nat} (hi : i < 8) (hp : G.page = (i : Int)) (d : List UInt8) (m : Int) :
    Inv (F.set j { G with data := d, changed := true, mark := m }) S L (La.set i d) pn := by
  have hj := (List.getElem?_eq_some_iff.1 hG).1
  have key : ∀ (k : Nat) (H : Frm), (F.set j { G with data := d, changed := true, mark := m })[k]? = some H → (k = j ∧ H = { G with data := d, changed := true, mark := m }) ∨ (k ≠ j ∧ F[k]? = some H) := by
    intro k H hH
    by_cases hk : j = k
    · subst hk; rw [List.getElem?_set_self hj] at hH; cases hH; exact .inl ⟨rfl, rfl⟩
    · rw [List.getElem?_set_ne hk] at hH; exact .inr ⟨fun h => hk h.symm, hH⟩
  refine ⟨by rw [List.length_set]; exact h.ln, fun a b A B hA hB hq h0 => ?_, fun a A hA => ?_, fun a A hA => ?_, fun a A hA h0 hn => ?_, fun a A hA h0 => ?_, fun k hk hnk => ?_⟩
  · rcases key a A hA with ⟨rfl, rfl⟩ | ⟨ha, hA⟩
    · rcases key b B hB with ⟨rfl, rfl⟩ | ⟨hb, hB⟩
      · rfl
      · exact h.one a b G B hG hB hq h0
    · have hA' := hA
      rcases key b B hB with ⟨rfl, rfl⟩ | ⟨hb, hB⟩
      · exact h.one a b A G hA' hG hq h0
      · exact h.one a b A B hA' hB hq h0
  · rcases key a A hA with ⟨rfl, rfl⟩ | ⟨ha, hA⟩
    · exact .inr ⟨by show (0 : Int) ≤ G.page; omega, by show G.page < 8; omega⟩
    · exact h.rng a A hA
  · rcases key a A hA with ⟨rfl, rfl⟩ | ⟨ha, hA⟩
    · exact h.pins a G hG
    · exact h.pins a A hA
  · rcases key a A hA with ⟨rfl, rfl⟩ | ⟨ha, hA⟩
    · cases hn
    · exact h.cln a A hA h0 hn
  · rcases key a A hA with ⟨rfl, rfl⟩ | ⟨ha, hA⟩
    · show (La.set i d)[G.page.toNat]? = some d
      rw [hp, Int.toNat_natCast, List.getElem?_set_self (by rw [h.ln]; exact hi)]
    · have hne : i ≠ A.page.toNat := fun e => ha (h.one a j A G hA hG (by omega) h0)
      rw [List.getElem?_set_ne hne]
      exact h.inn a A hA h0
  · have hki : i ≠ k := fun e => hnk j _ (List.getElem?_set_self hj) (by show G.page = _; rw [hp, e])
    rw [List.getElem?_set_ne hki]
    refine h.out k hk fun a A hA e => ?_
    by_cases ha : j = a
    · subst ha; rw [hG] at hA; cases hA; exact hki (by omega)
    · exact hnk a A (by rw [List.getElem?_set_ne ha]; exact hA) e

theorem latest_miss (S : List (List UInt8)) (F : List Frm) (n : Nat) : ∀ (Q : List Nat) (L : List (Nat × List UInt8)), (∀ x ∈ Q, (wrt F x).1 ≠ n) → latestOf S (L ++ Q.map (wrt F)) n = latestOf S L n
  | [], L, _ => by simp
  | x :: Q, L, h => by
    rw [List.map_cons, show L ++ wrt F x :: Q.map (wrt F) = (L ++ [wrt F x]) ++ Q.map (wrt F) by simp, latest_miss S F n Q _ (fun y hy => h y (by simp [hy]))]
    have := latest_snoc S L (wrt F x).1 (wrt F x).2 n
    rw [if_neg (h x (by simp))] at this
    exact this
theorem latest_hit (S : List (List UInt8)) (F : List Frm) (n x : Nat) (d : List UInt8) (hx : wrt F x = (n, d)) : ∀ (Q : List Nat) (L : List (Nat × List UInt8)), x ∈ Q → Q.Nodup → (∀ y ∈ Q, (wrt F y).1 = n → y = x) → latestOf S (L ++ Q.map (wrt F)) n = d
  | [], L, h, _, _ => by cases h
  | y :: Q, L, h, hn, ho => by
    rw [List.map_cons, show L ++ wrt F y :: Q.map (wrt F) = (L ++ [wrt F y]) ++ Q.map (wrt F) by simp]
    have hn2 := List.nodup_cons.1 hn
    by_cases hyx : y = x
    · subst hyx
      rw [latest_miss S F n Q _ (fun z hz e => hn2.1 (by have := ho z (by simp [hz]) e; rw [← this]; exact hz)), hx, latest_snoc, if_pos rfl]
    · refine latest_hit S F n x d hx Q _ ?_ hn2.2 (fun z hz => ho z (by simp [hz]))
      rcases List.mem_cons.1 h with h | h
      · exact absurd h.symm hyx
      · exact h
/-- Behind a flush each page is on the disk. -/
theorem Inv.flushed {F : List Frm} {S : List (List UInt8)} {L : List (Nat × List UInt8)} {La : List (List UInt8)} {pn : Nat → Nat} (h : Inv F S L La pn) {Q : List Nat} (hQ : Q.Perm (chg F F.length)) (i : Nat) (hi : i < 8) : La[i]? = some (latestOf S (L ++ Q.map (wrt F)) (4 + i)) := by
  have hmem : ∀ x ∈ Q, ∃ G, F[x]? = some G ∧ G.changed = true ∧ (wrt F x) = (4 + G.page.toNat, G.data) ∧ 0 ≤ G.page := fun x hx => by
    obtain ⟨_, G, g1, g2⟩ := chg_mem (hQ.mem_iff.1 hx)
    refine ⟨G, g1, g2, by unfold wrt; rw [g1], ?_⟩
    rcases h.rng x G g1 with h1 | h1
    · rw [h1.2] at g2; cases g2
    · exact h1.1
  by_cases hin : ∃ (j : Nat) (G : Frm), F[j]? = some G ∧ G.page = (i : Int)
  · obtain ⟨j, G, hG, hp⟩ := hin
    have hd := h.inn j G hG (by omega)
    rw [show G.page.toNat = i by omega] at hd
    have huniq : ∀ x ∈ Q, (wrt F x).1 = 4 + i → x = j := fun x hx e => by
      obtain ⟨H, h1, h2, h3, h4⟩ := hmem x hx
      rw [h3] at e
      exact h.one x j H G h1 hG (by have : 4 + H.page.toNat = 4 + i := e; omega) h4
    cases hch : G.changed with
    | true =>
      rw [latest_hit S F (4 + i) j G.data (by unfold wrt; rw [hG]; show (4 + G.page.toNat, G.data) = _; rw [show G.page.toNat = i by omega]) Q L (hQ.mem_iff.2 (chg_of hG hch)) (hQ.nodup_iff.2 (chg_nodup _ _)) huniq]
      exact hd
    | false =>
      rw [latest_miss S F (4 + i) Q L (fun x hx e => by
        obtain ⟨H, h1, h2, _⟩ := hmem x hx
        have := huniq x hx e
        subst this
        rw [h1] at hG; cases hG; rw [h2] at hch; cases hch)]
      have := h.cln j G hG (by omega) hch
      rw [show G.page.toNat = i by omega] at this
      rw [← this]; exact hd
  · rw [latest_miss S F (4 + i) Q L (fun x hx e => by
      obtain ⟨H, h1, h2, h3, h4⟩ := hmem x hx
      rw [h3] at e
      have e : 4 + H.page.toNat = 4 + i := e
      exact hin ⟨x, H, h1, by omega⟩)]
    exact h.out i hi fun j G hG e => hin ⟨j, G, hG, e⟩
theorem nodup_few : ∀ (n : Nat) (l : List Nat), l.Nodup → (∀ x ∈ l, x < n) → l.length ≤ n
  | 0, l, _, h => by
    cases l with
    | nil => simp
    | cons a l => exact absurd (h a (by simp)) (by omega)
  | n + 1, l, hn, h => by
    by_cases hm : n ∈ l
    · have h1 := nodup_few n (l.erase n) (hn.erase n) (fun x hx => by
        have h2 := (hn.mem_erase_iff).1 hx
        have h3 := h x h2.2
        have h4 : x ≠ n := h2.1
        omega)
      rw [List.length_erase_of_mem hm] at h1
      omega
    · have := nodup_few n l hn (fun x hx => by
        have := h x hx
        have : x ≠ n := fun e => hm (e ▸ hx)
        omega)
      omega
theorem Inv.few {F : List Frm} {S : List (List UInt8)} {L : List (Nat × List UInt8)} {La : List (List UInt8)} {pn : Nat → Nat} (h : Inv F S L La pn) : (chg F F.length).length ≤ 8 := by
  have := nodup_few 8 ((chg F F.length).map fun x => ((F[x]?.map Frm.page).getD 0).toNat) ?_ ?_
  · simpa using this
  · refine List.pairwise_map.2 (List.Pairwise.imp_of_mem ?_ (chg_nodup F F.length))
    intro a b ha hb hab e
    obtain ⟨_, A, a1, a2⟩ := chg_mem ha
    obtain ⟨_, B, b1, b2⟩ := chg_mem hb
    rw [a1, b1] at e
    have ra := h.rng a A a1
    have rb := h.rng b B b1
    have e : A.page.toNat = B.page.toNat := e
    refine hab (h.one a b A B a1 b1 ?_ ?_)
    · rcases ra with ra | ra
      · rw [ra.2] at a2; cases a2
      · rcases rb with rb | rb
        · rw [rb.2] at b2; cases b2
        · omega
    · rcases ra with ra | ra
      · rw [ra.2] at a2; cases a2
      · exact ra.1
  · intro y hy
    obtain ⟨x, hx, rfl⟩ := List.mem_map.1 hy
    obtain ⟨_, A, a1, a2⟩ := chg_mem hx
    rw [a1]
    show A.page.toNat < 8
    rcases h.rng x A a1 with ra | ra
    · rw [ra.2] at a2; cases a2
    · omega
end Go.Proofs.Ytpjelmlbikmddaa
