/- end: a transaction isn't active any more. -/
import Derived.Test.YtiooacaplajidaaMi
namespace Go.Proofs.Ytiooacaplajidaa
open Go.RowKit
set_option maxRecDepth 100000
set_option linter.unusedVariables false
set_option linter.unusedSimpArgs false

def oldAt (mb : Nat) (w : World) : Int := match w.cell? ⟨mb, 3, none⟩ with
  | some (.int .i64 n) => n
  | _ => 0
def oldS (s : St) (o : Int) : St := { s with oldest := o }
/-- Up to which stamp nobody asks. -/
def sig (s : St) : Int := match s.act s.oldest with
  | some x => x.snap
  | none => s.last
/-- What is behind the end of one. -/
def EndPost (w : World) (base mb N : Nat) (rl : Nat → Option Role) (s : St) (t : Int) (w' : World) : Prop := ∃ o j st' dv, Lay w' base mb N rl (forS (oldS (setT s t none) o) j st' dv) ∧ s.oldest ≤ o ∧ (s.oldest ≤ s.begun + 1 → o ≤ s.begun + 1) ∧ (∀ u, s.oldest ≤ u → u < o → (setT s t none).act u = none) ∧ (s.begun < o ∨ (setT s t none).act o ≠ none) ∧ Gone s.st st' (sig (oldS (setT s t none) o)) ∧ (∀ d ∈ (s.dn.drop j).head?, sig (oldS (setT s t none) o) < d.stamp) ∧ Fr w w' (fun k => (rl k).isSome = true)
section
variable {w : World} {base mb N : Nat} {rl : Nat → Option Role} {s : St}
theorem Lay.del {w' : World} {t : Int} (h : Lay w base mb N rl s) (hm : MapF EA w' s.ab N (fun y => if y = t then none else (s.act y).map fun x => some x.pb)) (hf : Fr w w' (fun k => k = s.ab)) : Lay w' base mb N rl (setT s t none) := by
  have na : ∀ k r, rl k = some r → r ≠ .active → ¬ (k = s.ab) := fun k r hk hr he => by subst he; rw [h.ra] at hk; exact hr (Option.some.inj hk).symm
  have nm := na _ _ h.rm (by simp)
  refine ⟨hf.cell nm h.c0, hf.cell nm h.c1, hf.cell nm h.c2, hf.cell nm h.c3, hf.cell nm h.c4, hf.cell nm h.c5, hf.cell nm h.c6, fun j => by rw [hf.frozen nm h.c0]; exact h.z j, ?_, h.sm.fr hf (na _ _ h.rs (by simp)), ?_, h.dr.fr hf (fun k hk => na _ _ hk (by simp)), ?_, h.rm, h.ra, h.rs, fun k r hk => ⟨(h.lo k r hk).1, Nat.lt_of_lt_of_le (h.lo k r hk).2 hf.size⟩⟩
  · refine hm.congr (fun u _ => ?_)
    by_cases hu : u = t
    · simp [setT, hu]
    · simp [setT, hu]
  · intro u y hy
    unfold setT at hy
    simp only at hy
    split at hy
    · cases hy
    · have H2 := h.tx u y hy
      exact H2.fr hf (na _ _ H2.rp (by simp)) (na _ _ H2.rk (by simp))
  · intro d hd
    obtain ⟨q1, q2⟩ := h.dk d hd
    exact ⟨q1.fr hf (na _ _ q2 (by simp)), q2⟩
theorem Lay.old {o : Int} (h : Lay w base mb N rl s) : Lay (w.setCell ⟨mb, 3, none⟩ (.int .i64 o)) base mb N rl (oldS s o) :=
  h.rest (Fr.setCell w ⟨mb, 3, none⟩ (.int .i64 o)) (fun j => by rw [World.frozen?_setCell]; exact h.z j) (cell_set h.c0) (cell_set h.c1) (cell_set h.c2) (cell_set h.c3) (cell_set h.c4) (cell_set h.c5) (cell_set h.c6) rfl rfl rfl rfl rfl rfl
set_option maxHeartbeats 8000000 in
theorem end_any (h : Lay w base mb N rl s) (t : Int) (ht : In64 t) (ho : 0 ≤ s.oldest) (hb : s.begun ≤ 9000000000000000000) (hob : s.oldest ≤ s.begun + 1) : Calls Try.prog 33 #[.pointer (some ⟨mb, 0, none⟩), .int .i64 t] w fun e w' => e = .returned (.tuple #[]) ∧ EndPost w base mb N rl s t w' := by
  have HL := hide h
  have c4 := h.c4
  obtain ⟨W1, hdel, hm1, hf1⟩ := h.am.del (x := t) ht 0
  replace hdel : (Builtin.delete_ #[39, 2] 0 #[.map (some s.ab), .int .i64 t]).run Try.prog w = .ok (.tuple #[]) W1 := hdel
  have HL1 := hide (h.del (t := t) (hm1.congr (fun y _ => by by_cases hy : y = t <;> simp [hy])) hf1)
  have HF1 := hide (hf1.mono (Y := fun k => (rl k).isSome = true) (fun k _ hk => by have hk : k = s.ab := hk; subst hk; rw [HL.out.ra]; rfl))
  clear h hm1 hf1
  go_enter Try.func33, Try.ntmps33
  go_wp2_with fail
  clear hdel c4
  go_loopw [] (fun wr => ∃ o : Int, Lay wr base mb N rl (oldS (setT s t none) o) ∧ s.oldest ≤ o ∧ o ≤ s.begun + 1 ∧ (∀ u, s.oldest ≤ u → u < o → (setT s t none).act u = none) ∧ Fr w wr (fun k => (rl k).isSome = true)) (fun wr => (s.begun + 1 - oldAt mb wr).toNat)
  case atStart => exact ⟨s.oldest, HL1.out, Int.le_refl _, hob, fun u h1 h2 => by omega, HF1.out⟩
  case round =>
    rename World => W
    obtain ⟨o, hl, ho1, ho2, hno, hf⟩ := hrel
    have HLW := hide hl
    have HNO := hide hno
    have HF := hide hf
    have c2 : W.cell? ⟨mb, 2, none⟩ = some (.int .i64 s.begun) := hl.c2
    have c3 : W.cell? ⟨mb, 3, none⟩ = some (.int .i64 o) := hl.c3
    have c4 : W.cell? ⟨mb, 4, none⟩ = some (.map (some s.ab)) := hl.c4
    have z3 := hl.z 3
    have hin : In64 o := ⟨by omega, by omega⟩
    have hlook : ∀ n, (Instr.lookup 39 (.map (some s.ab)) (.int .i64 o) false).run Try.prog (W.drewN n) = .ok (vlP ((((setT s t none).act o).map fun x => some x.pb).getD none)) (W.drewN n) := fun n => (hl.am.fr (Fr.drewN W n (fun _ => False)) (fun h => h)).look (x := o) hin
    clear hl hno hf
    cases ha : (setT s t none).act o with
    | none =>
      rw [ha] at hlook
      replace hlook : ∀ n, (Instr.lookup 39 (.map (some s.ab)) (.int .i64 o) false).run Try.prog (W.drewN n) = .ok (.pointer none) (W.drewN n) := hlook
      have HA := hide ha
      clear ha
      by_cases hle : o ≤ s.begun
      · have hlb : decide (o ≤ s.begun) = true := by simpa using hle
        have hw : wrap64 (o + 1) = o + 1 := by unfold wrap64; omega
        go_wp2_with fail
        go_quiet (fail)
        have HL2 : Hid (Lay ((W.drewN nq).setCell ⟨mb, 3, none⟩ (.int .i64 (o + 1))) base mb N rl (oldS (setT s t none) (o + 1))) := hide ((HLW.out.frF (Fr.drewN W nq _)).old)
        have HF2 := hide (((HF.out.trans (Fr.drewN W nq (fun _ => False))).trans (Fr.setCell (W.drewN nq) ⟨mb, 3, none⟩ (.int .i64 (o + 1)))).mono (Y := fun k => (rl k).isSome = true) (fun k _ h => by rcases h with (h | h) | h; exact h; exact h.elim; (have h : k = mb := h; subst h; rw [HL.out.rm]; rfl)))
        have HME : Hid ((s.begun + 1 - oldAt mb ((W.drewN nq).setCell ⟨mb, 3, none⟩ (.int .i64 (o + 1)))).toNat < (s.begun + 1 - oldAt mb W).toNat) := hide (by
          have e1 : oldAt mb ((W.drewN nq).setCell ⟨mb, 3, none⟩ (.int .i64 (o + 1))) = o + 1 := by unfold oldAt; rw [World.cell?_setCell_same _ _ _ (show (W.drewN nq).cell? ⟨mb, 3, none⟩ = some (.int .i64 o) from c3)]
          have e2 : oldAt mb W = o := by unfold oldAt; rw [c3]
          rw [e1, e2]
          omega)
        clear hlook
        go_wp2
        go_roundw
        case rel =>
          refine ⟨o + 1, HL2.out, by omega, by omega, fun u h1 h2 => ?_, HF2.out⟩
          by_cases hu : u = o
          · rw [hu]; exact HA.out
          · exact HNO.out u h1 (by omega)
        case measure => exact HME.out
      · have hlb : decide (o ≤ s.begun) = false := by simpa using hle
        have HLB := hide hle
        go_wp2_with fail
        go_quiet (fail)
        have HLQ := hide (HLW.out.frF (Fr.drewN W nq _))
        have HFQ := hide ((HF.out.trans (Fr.drewN W nq (fun _ => False))).mono (Y := fun k => (rl k).isSome = true) (fun k _ h => h.elim id False.elim))
        clear hlook c2 c3 c4 z3 HLW HF
        generalize W.drewN nq = V at *
        have c3 : V.cell? ⟨mb, 3, none⟩ = some (.int .i64 o) := HLQ.out.c3
        have c4 : V.cell? ⟨mb, 4, none⟩ = some (.map (some s.ab)) := HLQ.out.c4
        have hlook : ∀ n, (Instr.lookup 39 (.map (some s.ab)) (.int .i64 o) false).run Try.prog (V.drewN n) = .ok (vlP ((((setT s t none).act o).map fun x => some x.pb).getD none)) (V.drewN n) := fun n => (HLQ.out.am.fr (Fr.drewN V n (fun _ => False)) (fun h => h)).look (x := o) hin
        rw [HA.out] at hlook
        replace hlook : ∀ n, (Instr.lookup 39 (.map (some s.ab)) (.int .i64 o) false).run Try.prog (V.drewN n) = .ok (.pointer none) (V.drewN n) := hlook
        go_wp2_with fail
        go_quiet (fail)
        have HLR := hide (HLQ.out.frF (Fr.drewN V nq _))
        have HFR := hide ((HFQ.out.trans (Fr.drewN V nq (fun _ => False))).mono (Y := fun k => (rl k).isSome = true) (fun k _ h => h.elim id False.elim))
        clear hlook c3 c4 HLQ HFQ
        generalize V.drewN nq = V2 at *
        go_wp2_with fail
        refine wp_region_K (fun _ => true) (fun U : World => U.cell? ⟨mb, 1, none⟩ = some (.int .i64 s.last)) (by kernel_rfl) ?_
        have HLS := hide (HLR.out.frF (Fr.drew V2 _))
        have HFS := hide ((HFR.out.trans (Fr.drew V2 (fun _ => False))).mono (Y := fun k => (rl k).isSome = true) (fun k _ h => h.elim id False.elim))
        clear HLR HFR
        generalize V2.drew = V3 at *
        have hS : (fun U : World => U.cell? ⟨mb, 1, none⟩ = some (.int .i64 s.last)) V3 := HLS.out.c1
        refine wpAnyK_takeTo 0 (some 57) (.pointer (some ⟨mb, 0, none⟩)) [] rfl rfl (by kernel_rfl) (by kernel_rfl) (by kernel_rfl) (by kernel_rfl) (fun _ _ _ h => h) hS (Or.inl ⟨rfl, fun w1 hw1 => by have hw1 : w1.cell? ⟨mb, 1, none⟩ = some (.int .i64 s.last) := hw1; go_simp⟩) ?_
        simp only [Act.put, List.setIfInBounds_toArray, List.set_cons_zero, List.set_cons_succ]
        refine wpAnyK_takeTo 1 (some 58) (.pointer (some ⟨mb, 0, none⟩)) [] rfl rfl (by kernel_rfl) (by kernel_rfl) (by kernel_rfl) (by kernel_rfl) (fun _ _ _ h => h) hS (Or.inl ⟨rfl, fun w1 hw1 => by have hw1 : w1.cell? ⟨mb, 1, none⟩ = some (.int .i64 s.last) := hw1; go_simp⟩) ?_
        simp only [Act.put, List.setIfInBounds_toArray, List.set_cons_zero, List.set_cons_succ]
        refine wpAnyK_takeTo 2 (some 59) (.pointer (some ⟨mb, 5, none⟩)) [] rfl rfl (by kernel_rfl) (by kernel_rfl) (by kernel_rfl) (by kernel_rfl) (fun _ _ _ h => h) hS (Or.inl ⟨rfl, fun w1 hw1 => by have hw1 : w1.cell? ⟨mb, 1, none⟩ = some (.int .i64 s.last) := hw1; go_simp⟩) ?_
        simp only [Act.put, List.setIfInBounds_toArray, List.set_cons_zero, List.set_cons_succ]
        refine wpAnyK_takeTo 3 (some 60) (.pointer (some ⟨mb, 0, none⟩)) [] rfl rfl (by kernel_rfl) (by kernel_rfl) (by kernel_rfl) (by kernel_rfl) (fun _ _ _ h => h) hS (Or.inl ⟨rfl, fun w1 hw1 => by have hw1 : w1.cell? ⟨mb, 1, none⟩ = some (.int .i64 s.last) := hw1; go_simp⟩) ?_
        simp only [Act.put, List.setIfInBounds_toArray, List.set_cons_zero, List.set_cons_succ]
        refine wpAnyK_takeTo 4 (some 61) (.pointer (some ⟨mb, 0, none⟩)) [] rfl rfl (by kernel_rfl) (by kernel_rfl) (by kernel_rfl) (by kernel_rfl) (fun _ _ _ h => h) hS (Or.inl ⟨rfl, fun w1 hw1 => by have hw1 : w1.cell? ⟨mb, 1, none⟩ = some (.int .i64 s.last) := hw1; go_simp⟩) ?_
        simp only [Act.put, List.setIfInBounds_toArray, List.set_cons_zero, List.set_cons_succ]
        refine wpAnyK_takeTo 5 (some 62) (.pointer (some ⟨mb, 0, none⟩)) [] rfl rfl (by kernel_rfl) (by kernel_rfl) (by kernel_rfl) (by kernel_rfl) (fun _ _ _ h => h) hS (Or.inl ⟨rfl, fun w1 hw1 => by have hw1 : w1.cell? ⟨mb, 1, none⟩ = some (.int .i64 s.last) := hw1; go_simp⟩) ?_
        simp only [Act.put, List.setIfInBounds_toArray, List.set_cons_zero, List.set_cons_succ]
        refine wpAnyK_takeTo 6 (some 63) (.pointer (some ⟨mb, 1, none⟩)) [] rfl rfl (by kernel_rfl) (by kernel_rfl) (by kernel_rfl) (by kernel_rfl) (fun _ _ _ h => h) hS (Or.inl ⟨rfl, fun w1 hw1 => by have hw1 : w1.cell? ⟨mb, 1, none⟩ = some (.int .i64 s.last) := hw1; go_simp⟩) ?_
        simp only [Act.put, List.setIfInBounds_toArray, List.set_cons_zero, List.set_cons_succ]
        refine wpAnyK_takeTo 7 (some 64) (.int .i64 s.last) [] rfl rfl (by kernel_rfl) (by kernel_rfl) (by kernel_rfl) (by kernel_rfl) (fun _ _ _ h => h) hS (Or.inl ⟨rfl, fun w1 hw1 => by have hw1 : w1.cell? ⟨mb, 1, none⟩ = some (.int .i64 s.last) := hw1; go_simp⟩) ?_
        simp only [Act.put, List.setIfInBounds_toArray, List.set_cons_zero, List.set_cons_succ]
        refine wpAnyK_one (i := 8) (by kernel_rfl) rfl rfl ?_
        refine wp_call_to (some 65) rfl 40 #[.pointer (some ⟨mb, 5, none⟩), .int .i64 s.last] (by go_simp) (forget_any HLS.out s.last) ?_
        rintro e V4 ⟨rfl, ⟨j, st', dv, hl4, hg4, hh4⟩, hf4⟩
        have HSG : Hid (sig (oldS (setT s t none) o) = s.last) := hide (by unfold sig; rw [show (oldS (setT s t none) o).act (oldS (setT s t none) o).oldest = (setT s t none).act o from rfl, HA.out] <;> first | rfl | skip)
        have HEND : Hid (EndPost w base mb N rl s t V4) := hide ⟨o, j, st', dv, hl4, ho1, fun _ => ho2, HNO.out, .inl (by have := HLB.out; omega), by rw [HSG.out]; exact hg4, by rw [HSG.out]; exact hh4, (HFS.out.trans hf4).mono (fun k _ h => h.elim id id)⟩
        refine ⟨_, rfl, fun _ => hl4.c1, ?_⟩
        simp only [Act.put, List.setIfInBounds_toArray, List.set_cons_zero, List.set_cons_succ]
        refine wpAnyK_done (by kernel_rfl) ?_ _
        clear hS hl4 hg4 hh4 hf4
        go_wp2
        go_end0
        exact ⟨rfl, HEND.out⟩
    | some x =>
      rw [ha] at hlook
      replace hlook : ∀ n, (Instr.lookup 39 (.map (some s.ab)) (.int .i64 o) false).run Try.prog (W.drewN n) = .ok (.pointer (some ⟨x.pb, 0, none⟩)) (W.drewN n) := hlook
      have HA := hide ha
      clear ha
      by_cases hle : o ≤ s.begun
      · have hlb : decide (o ≤ s.begun) = true := by simpa using hle
        go_wp2_with fail
        go_quiet (fail)
        have HLQ := hide (HLW.out.frF (Fr.drewN W nq _))
        have HFQ := hide ((HF.out.trans (Fr.drewN W nq (fun _ => False))).mono (Y := fun k => (rl k).isSome = true) (fun k _ h => h.elim id False.elim))
        clear hlook c2 c3 c4 z3 HLW HF
        generalize W.drewN nq = V at *
        have c3 : V.cell? ⟨mb, 3, none⟩ = some (.int .i64 o) := HLQ.out.c3
        have c4 : V.cell? ⟨mb, 4, none⟩ = some (.map (some s.ab)) := HLQ.out.c4
        have hlook : ∀ n, (Instr.lookup 39 (.map (some s.ab)) (.int .i64 o) false).run Try.prog (V.drewN n) = .ok (vlP ((((setT s t none).act o).map fun x => some x.pb).getD none)) (V.drewN n) := fun n => (HLQ.out.am.fr (Fr.drewN V n (fun _ => False)) (fun h => h)).look (x := o) hin
        rw [HA.out] at hlook
        replace hlook : ∀ n, (Instr.lookup 39 (.map (some s.ab)) (.int .i64 o) false).run Try.prog (V.drewN n) = .ok (.pointer (some ⟨x.pb, 0, none⟩)) (V.drewN n) := hlook
        go_wp2_with fail
        go_quiet (fail)
        have HLR := hide (HLQ.out.frF (Fr.drewN V nq _))
        have HFR := hide ((HFQ.out.trans (Fr.drewN V nq (fun _ => False))).mono (Y := fun k => (rl k).isSome = true) (fun k _ h => h.elim id False.elim))
        clear hlook c3 c4 HLQ HFQ
        generalize V.drewN nq = V2 at *
        go_wp2_with fail
        refine wp_region_K (fun _ => true) (fun U : World => U.cell? ⟨x.pb, 0, none⟩ = some (.int .i64 x.snap)) (by kernel_rfl) ?_
        have HLS := hide (HLR.out.frF (Fr.drew V2 _))
        have HFS := hide ((HFR.out.trans (Fr.drew V2 (fun _ => False))).mono (Y := fun k => (rl k).isSome = true) (fun k _ h => h.elim id False.elim))
        clear HLR HFR
        generalize V2.drew = V3 at *
        have hS : (fun U : World => U.cell? ⟨x.pb, 0, none⟩ = some (.int .i64 x.snap)) V3 := (HLS.out.tx o x HA.out).c0
        refine wpAnyK_takeTo 0 (some 49) (.pointer (some ⟨mb, 0, none⟩)) [] rfl rfl (by kernel_rfl) (by kernel_rfl) (by kernel_rfl) (by kernel_rfl) (fun _ _ _ h => h) hS (Or.inl ⟨rfl, fun w1 hw1 => by have hw1 : w1.cell? ⟨x.pb, 0, none⟩ = some (.int .i64 x.snap) := hw1; go_simp⟩) ?_
        simp only [Act.put, List.setIfInBounds_toArray, List.set_cons_zero, List.set_cons_succ]
        refine wpAnyK_takeTo 1 (some 50) (.pointer (some ⟨mb, 0, none⟩)) [] rfl rfl (by kernel_rfl) (by kernel_rfl) (by kernel_rfl) (by kernel_rfl) (fun _ _ _ h => h) hS (Or.inl ⟨rfl, fun w1 hw1 => by have hw1 : w1.cell? ⟨x.pb, 0, none⟩ = some (.int .i64 x.snap) := hw1; go_simp⟩) ?_
        simp only [Act.put, List.setIfInBounds_toArray, List.set_cons_zero, List.set_cons_succ]
        refine wpAnyK_takeTo 2 (some 51) (.pointer (some ⟨mb, 5, none⟩)) [] rfl rfl (by kernel_rfl) (by kernel_rfl) (by kernel_rfl) (by kernel_rfl) (fun _ _ _ h => h) hS (Or.inl ⟨rfl, fun w1 hw1 => by have hw1 : w1.cell? ⟨x.pb, 0, none⟩ = some (.int .i64 x.snap) := hw1; go_simp⟩) ?_
        simp only [Act.put, List.setIfInBounds_toArray, List.set_cons_zero, List.set_cons_succ]
        refine wpAnyK_takeTo 3 (some 52) (.pointer (some ⟨x.pb, 0, none⟩)) [] rfl rfl (by kernel_rfl) (by kernel_rfl) (by kernel_rfl) (by kernel_rfl) (fun _ _ _ h => h) hS (Or.inl ⟨rfl, fun w1 hw1 => by have hw1 : w1.cell? ⟨x.pb, 0, none⟩ = some (.int .i64 x.snap) := hw1; go_simp⟩) ?_
        simp only [Act.put, List.setIfInBounds_toArray, List.set_cons_zero, List.set_cons_succ]
        refine wpAnyK_takeTo 4 (some 53) (.pointer (some ⟨x.pb, 0, none⟩)) [] rfl rfl (by kernel_rfl) (by kernel_rfl) (by kernel_rfl) (by kernel_rfl) (fun _ _ _ h => h) hS (Or.inl ⟨rfl, fun w1 hw1 => by have hw1 : w1.cell? ⟨x.pb, 0, none⟩ = some (.int .i64 x.snap) := hw1; go_simp⟩) ?_
        simp only [Act.put, List.setIfInBounds_toArray, List.set_cons_zero, List.set_cons_succ]
        refine wpAnyK_takeTo 5 (some 54) (.pointer (some ⟨x.pb, 0, none⟩)) [] rfl rfl (by kernel_rfl) (by kernel_rfl) (by kernel_rfl) (by kernel_rfl) (fun _ _ _ h => h) hS (Or.inl ⟨rfl, fun w1 hw1 => by have hw1 : w1.cell? ⟨x.pb, 0, none⟩ = some (.int .i64 x.snap) := hw1; go_simp⟩) ?_
        simp only [Act.put, List.setIfInBounds_toArray, List.set_cons_zero, List.set_cons_succ]
        refine wpAnyK_takeTo 6 (some 55) (.int .i64 x.snap) [] rfl rfl (by kernel_rfl) (by kernel_rfl) (by kernel_rfl) (by kernel_rfl) (fun _ _ _ h => h) hS (Or.inl ⟨rfl, fun w1 hw1 => by have hw1 : w1.cell? ⟨x.pb, 0, none⟩ = some (.int .i64 x.snap) := hw1; go_simp⟩) ?_
        simp only [Act.put, List.setIfInBounds_toArray, List.set_cons_zero, List.set_cons_succ]
        refine wpAnyK_one (i := 7) (by kernel_rfl) rfl rfl ?_
        refine wp_call_to (some 56) rfl 40 #[.pointer (some ⟨mb, 5, none⟩), .int .i64 x.snap] (by go_simp) (forget_any HLS.out x.snap) ?_
        rintro e V4 ⟨rfl, ⟨j, st', dv, hl4, hg4, hh4⟩, hf4⟩
        have HSG : Hid (sig (oldS (setT s t none) o) = x.snap) := hide (by unfold sig; rw [show (oldS (setT s t none) o).act (oldS (setT s t none) o).oldest = (setT s t none).act o from rfl, HA.out] <;> first | rfl | skip)
        have HEND : Hid (EndPost w base mb N rl s t V4) := hide ⟨o, j, st', dv, hl4, ho1, fun _ => ho2, HNO.out, .inr (by rw [HA.out]; simp), by rw [HSG.out]; exact hg4, by rw [HSG.out]; exact hh4, (HFS.out.trans hf4).mono (fun k _ h => h.elim id id)⟩
        refine ⟨_, rfl, fun _ => (hl4.tx o x HA.out).c0, ?_⟩
        simp only [Act.put, List.setIfInBounds_toArray, List.set_cons_zero, List.set_cons_succ]
        refine wpAnyK_done (by kernel_rfl) ?_ _
        clear hS hl4 hg4 hh4 hf4
        go_wp2
        go_end0
        exact ⟨rfl, HEND.out⟩
      · have hlb : decide (o ≤ s.begun) = false := by simpa using hle
        go_wp2_with fail
        go_quiet (fail)
        have HLQ := hide (HLW.out.frF (Fr.drewN W nq _))
        have HFQ := hide ((HF.out.trans (Fr.drewN W nq (fun _ => False))).mono (Y := fun k => (rl k).isSome = true) (fun k _ h => h.elim id False.elim))
        clear hlook c2 c3 c4 z3 HLW HF
        generalize W.drewN nq = V at *
        have c3 : V.cell? ⟨mb, 3, none⟩ = some (.int .i64 o) := HLQ.out.c3
        have c4 : V.cell? ⟨mb, 4, none⟩ = some (.map (some s.ab)) := HLQ.out.c4
        have hlook : ∀ n, (Instr.lookup 39 (.map (some s.ab)) (.int .i64 o) false).run Try.prog (V.drewN n) = .ok (vlP ((((setT s t none).act o).map fun x => some x.pb).getD none)) (V.drewN n) := fun n => (HLQ.out.am.fr (Fr.drewN V n (fun _ => False)) (fun h => h)).look (x := o) hin
        rw [HA.out] at hlook
        replace hlook : ∀ n, (Instr.lookup 39 (.map (some s.ab)) (.int .i64 o) false).run Try.prog (V.drewN n) = .ok (.pointer (some ⟨x.pb, 0, none⟩)) (V.drewN n) := hlook
        go_wp2_with fail
        go_quiet (fail)
        have HLR := hide (HLQ.out.frF (Fr.drewN V nq _))
        have HFR := hide ((HFQ.out.trans (Fr.drewN V nq (fun _ => False))).mono (Y := fun k => (rl k).isSome = true) (fun k _ h => h.elim id False.elim))
        clear hlook c3 c4 HLQ HFQ
        generalize V.drewN nq = V2 at *
        go_wp2_with fail
        refine wp_region_K (fun _ => true) (fun U : World => U.cell? ⟨x.pb, 0, none⟩ = some (.int .i64 x.snap)) (by kernel_rfl) ?_
        have HLS := hide (HLR.out.frF (Fr.drew V2 _))
        have HFS := hide ((HFR.out.trans (Fr.drew V2 (fun _ => False))).mono (Y := fun k => (rl k).isSome = true) (fun k _ h => h.elim id False.elim))
        clear HLR HFR
        generalize V2.drew = V3 at *
        have hS : (fun U : World => U.cell? ⟨x.pb, 0, none⟩ = some (.int .i64 x.snap)) V3 := (HLS.out.tx o x HA.out).c0
        refine wpAnyK_takeTo 0 (some 49) (.pointer (some ⟨mb, 0, none⟩)) [] rfl rfl (by kernel_rfl) (by kernel_rfl) (by kernel_rfl) (by kernel_rfl) (fun _ _ _ h => h) hS (Or.inl ⟨rfl, fun w1 hw1 => by have hw1 : w1.cell? ⟨x.pb, 0, none⟩ = some (.int .i64 x.snap) := hw1; go_simp⟩) ?_
        simp only [Act.put, List.setIfInBounds_toArray, List.set_cons_zero, List.set_cons_succ]
        refine wpAnyK_takeTo 1 (some 50) (.pointer (some ⟨mb, 0, none⟩)) [] rfl rfl (by kernel_rfl) (by kernel_rfl) (by kernel_rfl) (by kernel_rfl) (fun _ _ _ h => h) hS (Or.inl ⟨rfl, fun w1 hw1 => by have hw1 : w1.cell? ⟨x.pb, 0, none⟩ = some (.int .i64 x.snap) := hw1; go_simp⟩) ?_
        simp only [Act.put, List.setIfInBounds_toArray, List.set_cons_zero, List.set_cons_succ]
        refine wpAnyK_takeTo 2 (some 51) (.pointer (some ⟨mb, 5, none⟩)) [] rfl rfl (by kernel_rfl) (by kernel_rfl) (by kernel_rfl) (by kernel_rfl) (fun _ _ _ h => h) hS (Or.inl ⟨rfl, fun w1 hw1 => by have hw1 : w1.cell? ⟨x.pb, 0, none⟩ = some (.int .i64 x.snap) := hw1; go_simp⟩) ?_
        simp only [Act.put, List.setIfInBounds_toArray, List.set_cons_zero, List.set_cons_succ]
        refine wpAnyK_takeTo 3 (some 52) (.pointer (some ⟨x.pb, 0, none⟩)) [] rfl rfl (by kernel_rfl) (by kernel_rfl) (by kernel_rfl) (by kernel_rfl) (fun _ _ _ h => h) hS (Or.inl ⟨rfl, fun w1 hw1 => by have hw1 : w1.cell? ⟨x.pb, 0, none⟩ = some (.int .i64 x.snap) := hw1; go_simp⟩) ?_
        simp only [Act.put, List.setIfInBounds_toArray, List.set_cons_zero, List.set_cons_succ]
        refine wpAnyK_takeTo 4 (some 53) (.pointer (some ⟨x.pb, 0, none⟩)) [] rfl rfl (by kernel_rfl) (by kernel_rfl) (by kernel_rfl) (by kernel_rfl) (fun _ _ _ h => h) hS (Or.inl ⟨rfl, fun w1 hw1 => by have hw1 : w1.cell? ⟨x.pb, 0, none⟩ = some (.int .i64 x.snap) := hw1; go_simp⟩) ?_
        simp only [Act.put, List.setIfInBounds_toArray, List.set_cons_zero, List.set_cons_succ]
        refine wpAnyK_takeTo 5 (some 54) (.pointer (some ⟨x.pb, 0, none⟩)) [] rfl rfl (by kernel_rfl) (by kernel_rfl) (by kernel_rfl) (by kernel_rfl) (fun _ _ _ h => h) hS (Or.inl ⟨rfl, fun w1 hw1 => by have hw1 : w1.cell? ⟨x.pb, 0, none⟩ = some (.int .i64 x.snap) := hw1; go_simp⟩) ?_
        simp only [Act.put, List.setIfInBounds_toArray, List.set_cons_zero, List.set_cons_succ]
        refine wpAnyK_takeTo 6 (some 55) (.int .i64 x.snap) [] rfl rfl (by kernel_rfl) (by kernel_rfl) (by kernel_rfl) (by kernel_rfl) (fun _ _ _ h => h) hS (Or.inl ⟨rfl, fun w1 hw1 => by have hw1 : w1.cell? ⟨x.pb, 0, none⟩ = some (.int .i64 x.snap) := hw1; go_simp⟩) ?_
        simp only [Act.put, List.setIfInBounds_toArray, List.set_cons_zero, List.set_cons_succ]
        refine wpAnyK_one (i := 7) (by kernel_rfl) rfl rfl ?_
        refine wp_call_to (some 56) rfl 40 #[.pointer (some ⟨mb, 5, none⟩), .int .i64 x.snap] (by go_simp) (forget_any HLS.out x.snap) ?_
        rintro e V4 ⟨rfl, ⟨j, st', dv, hl4, hg4, hh4⟩, hf4⟩
        have HSG : Hid (sig (oldS (setT s t none) o) = x.snap) := hide (by unfold sig; rw [show (oldS (setT s t none) o).act (oldS (setT s t none) o).oldest = (setT s t none).act o from rfl, HA.out] <;> first | rfl | skip)
        have HEND : Hid (EndPost w base mb N rl s t V4) := hide ⟨o, j, st', dv, hl4, ho1, fun _ => ho2, HNO.out, .inr (by rw [HA.out]; simp), by rw [HSG.out]; exact hg4, by rw [HSG.out]; exact hh4, (HFS.out.trans hf4).mono (fun k _ h => h.elim id id)⟩
        refine ⟨_, rfl, fun _ => (hl4.tx o x HA.out).c0, ?_⟩
        simp only [Act.put, List.setIfInBounds_toArray, List.set_cons_zero, List.set_cons_succ]
        refine wpAnyK_done (by kernel_rfl) ?_ _
        clear hS hl4 hg4 hh4 hf4
        go_wp2
        go_end0
        exact ⟨rfl, HEND.out⟩
end
end Go.Proofs.Ytiooacaplajidaa
