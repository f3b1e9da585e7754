/- What is proved: for all periods, PeriodTurns returns true and leaves its arguments as they were; the table of the package period lies as the program's text lays it (the card ties it). No other condition. -/
import Derived.Test.YtbdpdobaacbkkaaDoorTy
import Derived.Test.YtbdpdobaacbkkaaDoorOi
import Derived.Test.YtbdpdobaacbkkaaDoorTie
import Derived.Test.YtbdpdobaacbkkaaDoorCards
import Derived.LaidMore
import Derived.Stop.Joined
import Derived.SevenTiedAt
namespace Go.Proofs.YtbdpdobaacbkkaaDoor
open Go.ChangeShapes Go.WideShapes Go.ChangeAt Go.RowKit Go.Deep
set_option linter.unusedVariables false

theorem gShared : Tryd.prog.globalNamed "annals/period.shared" = some 0 := by kernel_rfl
theorem tShared : (Tryd.prog.globals[0]?).map (·.type) = some 40 := by kernel_rfl
theorem cells39 : Tryd.prog.cellsOf 39 = 3 := by kernel_rfl
theorem cells3 : Tryd.prog.cellsOf 3 = 1 := by kernel_rfl
def laid1 : List (String × DataW Unit) := [("annals/period.shared", Rows.laid_annals_period_shared)]

/-- The door's own heap meets the condition. -/
theorem door_met (os : Os) (args : Array Value) : laidMetH Tryd.prog laid1 ((World.doorLaid Tryd.prog 400 os).forCall (fun _ _ => 0) ⟨#[], args, []⟩).memory :=
  laidMetH_of_parts3 (fuel := 8) (laidMet_of_run' 8 (by kernel_rfl) (by kernel_rfl)) (by kernel_rfl) (by kernel_rfl)

theorem row_of {W : World} {fuel : Nat} {cs : List Value} {x y z : Int} {p : List MemPlace} (h : DataW.trod (fun _ => ()) Tryd.prog W 0 (fun _ => true) false fuel 39 cs = some (.agg [.lit (.int .i64 x), .lit (.int .i64 y), .lit (.int .i64 z)], p)) : cs = [.int .i64 x, .int .i64 y, .int .i64 z] := by
  obtain ⟨xs, n, _, hx, hl, hxl, hel⟩ := DataW.trod_array Tryd.underlying39 h
  have hl3 : cs.length = 3 := by rw [cells39] at hl; exact hl
  match cs, hl3 with
  | [c0, c1, c2], _ =>
    have hxl3 : xs.length = 3 := hxl
    match xs, hxl3 with
    | [y0, y1, y2], _ =>
      have f0 := hel 0 (by omega)
      have f1 := hel 1 (by omega)
      have f2 := hel 2 (by omega)
      rw [cells3] at f0 f1 f2
      change DataW.trod (fun _ => ()) Tryd.prog W 0 (fun _ => true) false n 3 [c0] = some y0 at f0
      change DataW.trod (fun _ => ()) Tryd.prog W 0 (fun _ => true) false n 3 [c1] = some y1 at f1
      change DataW.trod (fun _ => ()) Tryd.prog W 0 (fun _ => true) false n 3 [c2] = some y2 at f2
      obtain ⟨k0, e0, g0, _⟩ := DataW.trod_int Tryd.underlying3 f0
      obtain ⟨k1, e1, g1, _⟩ := DataW.trod_int Tryd.underlying3 f1
      obtain ⟨k2, e2, g2, _⟩ := DataW.trod_int Tryd.underlying3 f2
      rw [g0, g1, g2] at hx
      simp only [List.cons.injEq, and_true] at e0 e1 e2
      subst e0 e1 e2
      simp only [Prod.mk.injEq, DataW.agg.injEq, List.map_cons, List.map_nil, List.cons.injEq, DataW.lit.injEq, Lit.int.injEq, true_and, and_true] at hx
      obtain ⟨⟨rfl, rfl, rfl⟩, _⟩ := hx
      rfl

theorem of_laid {W : World} (h : laidMetH Tryd.prog laid1 W) : Tab W := by
  rw [MakeChecks.laidMetH_plain _ _ _ (by kernel_rfl)] at h
  obtain ⟨ps, ⟨g0, t0, cs0, f0, p0, q0, hg0, ht0, hv0, hd0, _⟩, _, _⟩ := h
  obtain rfl := Option.some.inj (gShared.symm.trans hg0)
  obtain rfl := Option.some.inj (tShared.symm.trans ht0)
  have hcs : cs0.toList = tabL := by
    unfold Rows.laid_annals_period_shared at hd0
    obtain ⟨xs, n, _, hx, hl, hxl, hel⟩ := DataW.trod_array Tryd.underlying40 hd0
    have hl9 : cs0.toList.length = 9 := by rw [show Tryd.prog.cellsOf 40 = 9 by kernel_rfl] at hl; exact hl
    generalize cs0.toList = cs at *
    match cs, hl9 with
    | [c0, c1, c2, c3, c4, c5, c6, c7, c8], _ =>
      have hxl3 : xs.length = 3 := hxl
      match xs, hxl3 with
      | [y0, y1, y2], _ =>
        have e0 := hel 0 (by omega)
        have e1 := hel 1 (by omega)
        have e2 := hel 2 (by omega)
        rw [cells39] at e0 e1 e2
        change DataW.trod (fun _ => ()) Tryd.prog W 0 (fun _ => true) false n 39 [c0, c1, c2] = some y0 at e0
        change DataW.trod (fun _ => ()) Tryd.prog W 0 (fun _ => true) false n 39 [c3, c4, c5] = some y1 at e1
        change DataW.trod (fun _ => ()) Tryd.prog W 0 (fun _ => true) false n 39 [c6, c7, c8] = some y2 at e2
        obtain ⟨d0, p0⟩ := y0
        obtain ⟨d1, p1⟩ := y1
        obtain ⟨d2, p2⟩ := y2
        simp only [Prod.mk.injEq, DataW.agg.injEq, List.map_cons, List.map_nil, List.cons.injEq, and_true] at hx
        obtain ⟨⟨rfl, rfl, rfl⟩, _⟩ := hx
        have r0 := row_of e0
        have r1 := row_of e1
        have r2 := row_of e2
        simp only [List.cons.injEq, and_true] at r0 r1 r2
        obtain ⟨rfl, rfl, rfl⟩ := r0
        obtain ⟨rfl, rfl, rfl⟩ := r1
        obtain ⟨rfl, rfl, rfl⟩ := r2
        rfl
  intro i v hv
  have h1 := World.var?_cell hg0 hv0 i
  rw [Nat.zero_add, h1, ← Array.getElem?_toList, hcs]
  exact hv

set_option maxRecDepth 100000 in
theorem turns_lifted (os : Os) (started : os.Started) (H : Type) (enc : TypeId × Value → H) :
    ReturnsInHanded {} Tryd.checked os 4 .any (fun w args => (Rows.periodTurnsSpec.pre enc Tryd.prog Tryd.f4 [] false w args ∧ laidMetH Tryd.prog laid1 w) ∧ sizedMet enc Tryd.prog Tryd.f4 (OpenSpec.ofChange Rows.periodTurnsSpec) false w args)
      (Rows.periodTurnsSpec.post enc Tryd.prog Tryd.f4 false true false false) := by
  refine returnsInHanded_of_change_and (C := Tryd.checked) (X := fun w _ => laidMetH Tryd.prog laid1 w) (fun _ _ _ hh h => h.of_heap hh) own started (by kernel_rfl) Tryd.func4
    (ChangeSpec.witness_shaped (enc := enc) (C := Tryd.checked) (os := os) (X := fun w _ => laidMetH Tryd.prog laid1 w) false (World.doorLaid Tryd.prog 400 os) #[.agg #[.int .i64 0, .int .i64 0], .agg #[.int .i64 0, .int .i64 0], .agg #[.int .i64 0, .int .i64 0]] 8 rfl (World.shaped_of_RefB (by kernel_rfl) (by kernel_rfl)) (by kernel_rfl) (by kernel_rfl) (by kernel_rfl) (door_met os _)) ?_
  intro W base args ds gs before hval0 hW _ _ hL _
  have hval : ∀ (j : Nat) t v, Tryd.f4.params[j]? = some t → args[j]? = some v → Value.okWide Tryd.prog W .any base t v := hval0
  have hW' := hW
  obtain ⟨p, q, hA0, hV, rfl, hfz, hnd⟩ := hW
  have hA : DataW.TrodAll enc Tryd.prog W 0 (fun _ => true) true Tryd.f4.params.toList args.toList ds p := hA0
  rw [Tryd.params4] at hA hval
  obtain ⟨v0, vs0, d0, ds0, p0, q0, hargs, rfl, rfl, h0, r0⟩ := trodAll_cons hA
  obtain ⟨v1, vs1, d1, ds1, p1, q1, rfl, rfl, rfl, h1, r1⟩ := trodAll_cons r0
  obtain ⟨v2, vs2, d2, ds2, p2, q2, rfl, rfl, rfl, h2, r2⟩ := trodAll_cons r1
  obtain ⟨rfl, rfl, rfl⟩ := trodAll_nil r2
  obtain rfl : args = #[v0, v1, v2] := by cases args; simp_all
  obtain ⟨rfl, rfl⟩ := trodVars_none hV
  have lt0 : ∀ x ∈ p0, x.block < W.heap.size := by obtain ⟨m, hm⟩ := h0; exact DataW.trod_lt m _ _ _ hm
  have lt1 : ∀ x ∈ p1, x.block < W.heap.size := by obtain ⟨m, hm⟩ := h1; exact DataW.trod_lt m _ _ _ hm
  have lt2 : ∀ x ∈ p2, x.block < W.heap.size := by obtain ⟨m, hm⟩ := h2; exact DataW.trod_lt m _ _ _ hm
  obtain ⟨p0', rfl, i0⟩ := open_per (hval 0 23 v0 rfl rfl) h0
  obtain ⟨p1', rfl, i1⟩ := open_per (hval 1 23 v1 rfl rfl) h1
  obtain ⟨p2', rfl, i2⟩ := open_per (hval 2 23 v2 rfl rfl) h2
  have htab := of_laid hL
  clear hA0 hval0
  refine (turns_walk p0' p1' p2' W htab).mono fun e W' ⟨he, fr⟩ => ?_
  subst he
  have bel := fr.below (Nat.le_refl _) (fun _ h => h.elim)
  exact ⟨_, rfl, _, _, _, [], _, [], hW', trodAll_mk1 (shut_bool Tryd.underlying4 _), (trodAll_cons_mk (Below.trod laidOut (by kernel_rfl) (of_decide_eq_true (by kernel_rfl)) h0 bel lt0) (trodAll_cons_mk (Below.trod laidOut (by kernel_rfl) (of_decide_eq_true (by kernel_rfl)) h1 bel lt1) (trodAll_cons_mk (Below.trod laidOut (by kernel_rfl) (of_decide_eq_true (by kernel_rfl)) h2 bel lt2) trodAll_mk0))), rfl, bel.frame _, fun h => by cases h⟩

theorem periodTurns_row : Rows.PeriodTurnsSaid :=
  OpenClaim.holds_of_wide 4 Tryd.f4 rfl rfl rfl rfl rfl rfl rfl ⟨rfl, rfl, rfl, rfl, rfl⟩ rfl rfl rfl rfl rfl (by kernel_rfl) Tryd.func4 (by kernel_rfl)
    (of_decide_eq_true (by kernel_rfl)) (by unfold Func.isWrapper; first | (rw [if_pos (by decide +kernel)]; kernel_rfl) | (rw [if_neg (by decide +kernel)]; exact ⟨rfl, rfl⟩))
    (fun os started H enc _ => turns_lifted os started H enc)

theorem periodTurns_holds : Rows.PeriodTurnsCardSaid :=
  Claim7.holds_tied_plain_at .later [] [.data] true (true, "36ad31f7fa658097de901d80cb56dfd83ec46040de059c55e17d94fe141cbec9") false
    periodTurns_row (fun _ h => by cases h) (by kernel_rfl) (fun _ h => by cases h) periodTurns_row_tie rfl ⟨rfl, rfl⟩ (by kernel_rfl) rfl
    (fun f fn hf hfn => by
      obtain rfl : f = 4 := Option.some.inj ((show Tryd.prog.funcNamed "annals/annalslaw04.PeriodTurns" = some 4 by kernel_rfl).symm.trans hf) |>.symm
      obtain rfl : fn = Tryd.f4 := (Option.some.inj (Tryd.func4.symm.trans hfn)).symm
      exact ⟨by kernel_rfl, fun j t ht => by
        rw [Tryd.params4] at ht
        have hm : t ∈ [23, 23, 23] := by simpa using Array.mem_of_getElem? ht
        have hall : ([23, 23, 23].all fun u => !Tryd.prog.wantsStandIn u) = true := by kernel_rfl
        exact (show Tryd.prog.wantsStandIn t = false by simpa using List.all_eq_true.1 hall t hm)⟩)
    (by kernel_rfl)
#print axioms periodTurns_holds
end Go.Proofs.YtbdpdobaacbkkaaDoor
