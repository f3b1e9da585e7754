/- What is proved: for every three numbers, MvccSees returns true and leaves its arguments as they were. No condition. -/
import Derived.Test.YtkajldocgmdbkaaRows
import Derived.WalkKit
import Derived.WalkSpells
import Derived.WalkLawsBesides
import Derived.Handy
import Derived.ProofKit
import Derived.OpenShut
import Derived.ChangeOld
import Derived.SizedLaws
namespace Go.Proofs.Ytkajldocgmdbkaa
open Go.ChangeShapes Go.WideShapes Go.ChangeAt Go.RowKit
set_option linter.unusedVariables false

theorem own : ownKnob Try.prog.godebug = none := by kernel_rfl
theorem laidOut : laidOutB Try.prog = true := by kernel_rfl

/-- What one sees. -/
def seesB (s b e : Int) : Bool := decide (b ≤ s ∧ (e = 0 ∨ s < e))

set_option maxHeartbeats 1000000 in
theorem sees_any (s b e : Int) (w : World) : Calls Try.prog 4 #[.int .i64 s, .int .i64 b, .int .i64 e] w fun x w' => x = .returned (.bool (seesB s b e)) ∧ w' = w := by
  by_cases h0 : b ≤ s
  · by_cases h1 : e = 0
    · have h2 : seesB s b e = true := by simp [seesB]; omega
      rw [h2]
      subst h1
      go_enter Try.func4, Try.ntmps4
      go_wp2
      go_ret
      exact ⟨rfl, rfl⟩
    · have h2 : (e == 0 || decide (s < e)) = seesB s b e := by simp [seesB, h0, h1]
      go_enter Try.func4, Try.ntmps4
      go_wp2
      go_ret
      refine ⟨?_, rfl⟩
      rw [← h2]
      rfl
  · have h2 : seesB s b e = false := by simp [seesB]; omega
    rw [h2]
    go_enter Try.func4, Try.ntmps4
    go_wp2
    go_ret
    exact ⟨rfl, rfl⟩

set_option maxHeartbeats 2000000 in
theorem law_walk (s b e : Int) (w : World) : Calls Try.prog 3 #[.int .i64 s, .int .i64 b, .int .i64 e] w fun x w' => x = .returned (.bool true) ∧ w' = w := by
  go_enter Try.func3, Try.ntmps3
  go_wp2_with fail
  refine (sees_any 5 5 0 w).mono ?_
  rintro x w1 ⟨rfl, rfl⟩
  have h5 : seesB 5 5 0 = true := by decide
  rw [h5]
  go_wp2_with fail
  refine (sees_any 5 3 5 _).mono ?_
  rintro x w2 ⟨rfl, rfl⟩
  have h6 : seesB 5 3 5 = false := by decide
  rw [h6]
  go_wp2_with fail
  refine (sees_any s b e _).mono ?_
  rintro x w3 ⟨rfl, rfl⟩
  by_cases h0 : b ≤ s
  · by_cases h1 : e = 0
    · have h2 : seesB s b e = true := by simp [seesB]; omega
      rw [h2]
      subst h1
      go_wp2
      go_ret
      exact ⟨rfl, rfl⟩
    · by_cases h3 : s < e
      · have h2 : seesB s b e = true := by simp [seesB]; omega
        rw [h2]
        go_wp2
        go_ret
        exact ⟨rfl, rfl⟩
      · have h2 : seesB s b e = false := by simp [seesB]; omega
        rw [h2]
        have h4 : (!e == 0 && !decide (s < e)) = true := by simp [h1, h3]
        go_wp2
        go_ret
        refine ⟨?_, rfl⟩
        rw [← h4]
        rfl
  · have h2 : seesB s b e = false := by simp [seesB]; omega
    rw [h2]
    go_wp2
    go_ret
    exact ⟨rfl, rfl⟩

set_option maxRecDepth 100000 in
theorem sees_lifted (os : Os) (started : os.Started) (H : Type) (enc : TypeId × Value → H) :
    ReturnsInHanded {} Try.checked os 3 .any (Rows.mvccSeesSpec.pre6 enc Try.prog Try.f3 Rows.mvccSeesRow.domain false) (Rows.mvccSeesSpec.post enc Try.prog Try.f3 false true false false) := by
  refine returnsInHanded_of_change_sized (C := Try.checked) own started (by kernel_rfl) Try.func3
    (ChangeSpec.witness6 (enc := enc) (C := Try.checked) false ⟨#[], #[.int .i64 0, .int .i64 0, .int .i64 0], []⟩ 8 (by kernel_rfl) (by kernel_rfl) (by kernel_rfl) (by kernel_rfl)) ?_
  intro W base args ds gs before hval0 hW _ hsz0 _
  have hval : ∀ (j : Nat) t v, Try.f3.params[j]? = some t → args[j]? = some v → Value.okWide Try.prog W .any base t v := hval0
  have hW' := hW
  obtain ⟨p, q, hA0, hV, rfl, hfz, hnd⟩ := hW
  have hA : DataW.TrodAll enc Try.prog W 0 (fun _ => true) true Try.f3.params.toList args.toList ds p := hA0
  rw [Try.params3] at hA hval
  obtain ⟨v0, vs0, d0, ds0, p0, q0, hargs, rfl, rfl, h0, r0⟩ := trodAll_cons hA
  obtain ⟨v1, vs1, d1, ds1, p1, q1, rfl, rfl, rfl, h1, r1⟩ := trodAll_cons r0
  obtain ⟨v2, vs2, d2, ds2, p2, q2, rfl, rfl, rfl, h2, r2⟩ := trodAll_cons r1
  obtain ⟨rfl, rfl, rfl⟩ := trodAll_nil r2
  obtain rfl : args = #[v0, v1, v2] := by cases args; simp_all
  obtain ⟨rfl, rfl⟩ := trodVars_none hV
  obtain ⟨a0, rfl, rfl, rfl, w0⟩ := open_int Try.underlying2 (hval 0 2 v0 rfl rfl) h0
  obtain ⟨a1, rfl, rfl, rfl, w1⟩ := open_int Try.underlying2 (hval 1 2 v1 rfl rfl) h1
  obtain ⟨a2, rfl, rfl, rfl, w2⟩ := open_int Try.underlying2 (hval 2 2 v2 rfl rfl) h2
  clear hA0 hval0
  refine (law_walk a0 a1 a2 W).mono fun e W' ⟨he, hw⟩ => ?_
  subst he
  subst hw
  exact ⟨_, rfl, _, _, _, [], _, [], hW', trodAll_mk1 (shut_bool Try.underlying4 _), (trodAll_cons_mk (shut_int Try.underlying2 w0) (trodAll_cons_mk (shut_int Try.underlying2 w1) (trodAll_cons_mk (shut_int Try.underlying2 w2) trodAll_mk0))), rfl, (Below.refl _ _).frame _, fun h => by cases h⟩

theorem sees_over : Rows.mvccSeesRow.holds Try.pinned (OpenSpec.ofChange Rows.mvccSeesSpec) :=
  OpenClaim.holds_of_wide 3 Try.f3 rfl rfl rfl rfl rfl rfl rfl ⟨rfl, rfl, rfl, rfl, rfl⟩ rfl rfl rfl rfl rfl (by kernel_rfl) Try.func3 (by kernel_rfl)
    (of_decide_eq_true (by kernel_rfl)) (by unfold Func.isWrapper; first | (rw [if_pos (by decide +kernel)]; kernel_rfl) | (rw [if_neg (by decide +kernel)]; exact ⟨rfl, rfl⟩))
    (fun os started H enc _ => sees_lifted os started H enc)

theorem mvccSees_said : Rows.MvccSeesSaid := sees_over
end Go.Proofs.Ytkajldocgmdbkaa
