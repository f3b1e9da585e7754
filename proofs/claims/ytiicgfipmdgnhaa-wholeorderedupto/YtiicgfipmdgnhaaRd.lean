/- Drawn regions within a round; a call within a round. -/
import Derived.Test.YtiicgfipmdgnhaaZc
namespace Go.Proofs.Ytiicgfipmdgnhaa
open Go.RowKit Go.Shelf
set_option maxRecDepth 100000
set_option linter.unusedVariables false
set_option linter.unusedSimpArgs false
attribute [local go_sem] Oper.semAt_some

theorem oper_round {P : Program} {l n : Nat} {o : Oper} {a : Act} {w : World} {K : Act → World → Prop} {Q : Exit → Act → World → Prop} (hd : ∀ c, o.op ≠ .defer c) (h : o.wp P a w K Q) : o.wpIn (Fence.wide.inRound l) n P a w K Q := by
  refine ⟨fun _ _ => trivial, ?_⟩
  rw [Oper.semAt_eq _ _ _ hd]
  unfold Oper.wp at h
  generalize (execOp a.eval o).run P w = r at h ⊢
  cases r with
  | ok x w' =>
    cases x with
    | value v => exact h
    | skip => exact h
    | defer d => exact h
    | enter f args =>
      refine ⟨fun h => by simp [Fence.wide] at h, CallsIn.inRound l (callsIn_wide.2 (Calls.mono h ?_))⟩
      intro e w'' hh
      cases e <;> exact hh
    | row r args => exact ⟨fun h => by simp [Fence.wide] at h, fun c cs _ => let ⟨v, w2, hr, s⟩ := h c cs; ⟨v, w2, hr, stepsIn_wide.2 s⟩⟩
    | _ => exact h.elim
  | halt x w' =>
    cases x with
    | panic v => exact h
    | _ => exact h.elim

theorem wpAnyIn_round {P : Program} {md : Region.Mode} {l n : Nat} {ops : Array Oper} {Q : Exit → Act → World → Prop} (hnd : ∀ (i : Nat) (o : Oper), ops[i]? = some o → ∀ c, o.op ≠ .defer c) (hQ : ¬ LetsOut Q) :
    ∀ (fuel : Nat) (listed : Array Bool) (a : Act) (w : World), wpAny P md ops Q fuel listed a w → wpAnyIn (Fence.wide.inRound l) n P md ops Q fuel listed a w
  | 0, _, _, _, h => h
  | fuel + 1, listed, a, w, h => by
    refine ⟨h.1, fun i hi => ?_⟩
    have h1 := h.2 i hi
    unfold wpOp at h1
    unfold wpOpIn
    cases ho : ops[i]? with
    | none => rw [ho] at h1; exact wpAnyIn_round hnd hQ fuel _ _ _ h1
    | some o =>
      rw [ho] at h1
      simp only at h1 ⊢
      split
      · rename_i hw
        rw [if_pos hw] at h1
        rcases h1 with h1 | h1
        · exact Oper.wpIn_mono (fun a w h => wpAnyIn_round hnd hQ fuel _ a w h) (oper_round (hnd i o ho) h1)
        · exact absurd h1.2 hQ
      · rename_i hw
        rw [if_neg hw] at h1
        exact ⟨fun _ _ => trivial, wpAnyIn_round hnd hQ fuel _ _ _ h1⟩

def noDefer (ops : Array Oper) : Bool := ops.all fun o => match o.op with | .defer _ => false | _ => true
theorem noDefer_spec {ops : Array Oper} (h : noDefer ops = true) : ∀ (i : Nat) (o : Oper), ops[i]? = some o → ∀ c, o.op ≠ .defer c := by
  intro i o ho c hc
  simp only [noDefer, Array.all_eq_true_iff_forall_mem] at h
  have h1 := h o (Array.mem_of_getElem? ho)
  rw [hc] at h1
  cases h1
theorem wp_region_round {P : Program} {ops : Array Oper} {Q : Exit → Act → World → Prop} {l n : Nat} (hold : Nat → Bool) (S : World → Prop) {id : Nat} {a : Act} {w : World} (hm : P.follows .mixedOrders = true) (hnd : noDefer ops = true) (hQ : ¬ LetsOut Q)
    (h : wpAnyK P .any ops Q hold S ops.size (Array.replicate ops.size false) a w.drew) : (Code.region id ops true).wpIn (Fence.wide.inRound l) n P Q a w :=
  wpIn_region_any hm (wpAnyIn_round (noDefer_spec hnd) hQ _ _ _ _ (wpAny_of_K _ _ _ _ h))

/-- A block of cells. -/
def IsC (w : World) (k : Nat) : Prop := ∃ o : Obj, w.heap[k]? = some o ∧ o.isCells = true
theorem IsC.fr {w w' : World} {k : Nat} {Z : Nat → Prop} (h : IsC w k) (hf : Fr w w' Z) (hz : ¬ Z k) : IsC w' k := by
  obtain ⟨o, h1, h2⟩ := h
  exact ⟨o, (hf.block k (Array.getElem?_eq_some_iff.1 h1).1 hz).trans h1, h2⟩
theorem results_bc {fn : Func} {p : Tmp} (h : fn.results = #[.cell p 4]) (tmps : Array Value) (w : World) (g : Nat) {b : Bool} (ht : Boxed w g 4 (.bool b)) (hp : tmps.getD p undef = .pointer (some ⟨g, 0, none⟩)) :
    (results fn tmps).run Try.prog w = .ok (.bool b) w := by
  have hp' : tmps[p]?.getD undef = .pointer (some ⟨g, 0, none⟩) := by simpa using hp
  have hc := ht.cell
  simp [results, h, hp', asAddr, loadVar, run_underlying Try.underlying4, go_sem, hc]
theorem bx_frz {w w' : World} {B : Nat} {t : TypeId} {v : Value} {Z : Nat → Prop} (h : Boxed w B t v) (hf : Fr w w' Z) (hz : ¬ Z B) : Boxed w' B t v := (hf.block B h.lt hz).trans h
theorem bx_put {w : World} {B : Nat} {t : TypeId} {v : Value} (h : Boxed w B t v) (u : Value) : Boxed (w.setCell ⟨B, 0, none⟩ u) B t u := heap_setCell_here w B 0 u #[v] t (0, 0) h
theorem keeps_fr {B : Nat} {W W' : World} {Z : Nat → Prop} (h : Fr W W' Z) (hz : ∀ k, Z k → IsC W k) : KeepsFrom B W W' :=
  ⟨h.size, fun k o _ hk ho => by
    rw [h.block k (Array.getElem?_eq_some_iff.1 hk).1 (fun hZ => by
      obtain ⟨o', h1, h2⟩ := hz k hZ
      rw [hk] at h1; cases h1; rw [ho] at h2; cases h2)]
    exact hk⟩
theorem bx_isc {w : World} {B : Nat} {t : TypeId} {v : Value} (h : Boxed w B t v) : IsC w B := ⟨_, h, rfl⟩
theorem ba_ne {s : ByteArray} (h : s ≠ ⟨#[]⟩) : s.data.toList ≠ [] := fun e => h (by
  cases s with | mk d => cases d with | mk l => simp at e; subst e; rfl)
/-- How a body is left: at its end or by a return. -/
def leaves (n : Nat) (fn : Func) (R : Ending → World → Prop) : Exit → Act → World → Prop
  | .normal, a, w | .ret, a, w => LeavesInM Fence.wide n Try.prog fn a.tmps R a.defers .returning w
  | _, _, _ => False
theorem leaves_post {n : Nat} {fn : Func} {R : Ending → World → Prop} : ∀ e a w, leaves n fn R e a w → bodyPostM Fence.wide n Try.prog fn R e a w
  | .normal, _, _, h => h
  | .ret, _, _, h => h
  | .exit _, _, _, h => h.elim
  | .goto _, _, _, h => h.elim
  | .panic _, _, _, h => h.elim
  | .outgrown, _, _, h => h.elim
theorem pref_at {pre F : List It} {x : It} (h : pre ++ [x] <+: F) : F[pre.length]? = some x := by
  obtain ⟨t, rfl⟩ := h
  simp
theorem own_off {A B : World} {row : Option Nat} {n : Nat} (hrw : ∀ r, row = some r → n ≤ r ∧ ∃ o : Obj, A.heap[r]? = some o ∧ o.isCells = false) : ∀ k, IsC A k → ¬ row = some k := fun k ⟨o, h1, h2⟩ e => by
  obtain ⟨_, o', ho', hc⟩ := hrw k e
  rw [h1] at ho'; cases ho'; rw [h2] at hc; cases hc
end Go.Proofs.Ytiicgfipmdgnhaa
