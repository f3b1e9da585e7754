/- A region that draws its order, within a round of a range over a function. -/
import Derived.Test.YtpjelmlbikmddaaCk
namespace Go.Proofs.Ytpjelmlbikmddaa
open Go.RowKit Go.Shelf
set_option linter.unusedVariables false

set_option maxRecDepth 100000 in
theorem oper_round {P : Program} {l n : Nat} {o : Oper} {a : Act} {w : World} {K : Act → World → Prop} {Q : Exit → Act → World → Prop} (hd : ∀ c, o.op ≠ .defer c) (h : o.wp P a w K Q) : o.wpIn (Fence.wide.inRound l) n P a w K Q := by
  refine ⟨fun _ _ => trivial, ?_⟩
  rw [Oper.semAt_eq _ _ _ hd]
  unfold Oper.wp at h
  generalize (execOp a.eval o).run P w = r at h ⊢
  cases r with
  | ok x w' =>
    cases x with
    | value v => exact h
    | skip => exact h
    | defer d => exact h
    | enter f args =>
      refine ⟨fun h => by simp [Fence.wide] at h, CallsIn.inRound l (callsIn_wide.2 (Calls.mono h ?_))⟩
      intro e w'' hh
      cases e <;> exact hh
    | row r args => exact ⟨fun h => by simp [Fence.wide] at h, fun c cs _ => let ⟨v, w2, hr, s⟩ := h c cs; ⟨v, w2, hr, stepsIn_wide.2 s⟩⟩
    | _ => exact h.elim
  | halt x w' =>
    cases x with
    | panic v => exact h
    | _ => exact h.elim

set_option maxRecDepth 100000 in
theorem wpAnyIn_round {P : Program} {md : Region.Mode} {l n : Nat} {ops : Array Oper} {Q : Exit → Act → World → Prop} (hnd : ∀ (i : Nat) (o : Oper), ops[i]? = some o → ∀ c, o.op ≠ .defer c) (hQ : ¬ LetsOut Q) :
    ∀ (fuel : Nat) (listed : Array Bool) (a : Act) (w : World), wpAny P md ops Q fuel listed a w → wpAnyIn (Fence.wide.inRound l) n P md ops Q fuel listed a w
  | 0, _, _, _, h => h
  | fuel + 1, listed, a, w, h => by
    refine ⟨h.1, fun i hi => ?_⟩
    have h1 := h.2 i hi
    unfold wpOp at h1
    unfold wpOpIn
    cases ho : ops[i]? with
    | none => rw [ho] at h1; exact wpAnyIn_round hnd hQ fuel _ _ _ h1
    | some o =>
      rw [ho] at h1
      simp only at h1 ⊢
      split
      · rename_i hw
        rw [if_pos hw] at h1
        rcases h1 with h1 | h1
        · exact Oper.wpIn_mono (fun a w h => wpAnyIn_round hnd hQ fuel _ a w h) (oper_round (hnd i o ho) h1)
        · exact absurd h1.2 hQ
      · rename_i hw
        rw [if_neg hw] at h1
        exact ⟨fun _ _ => trivial, wpAnyIn_round hnd hQ fuel _ _ _ h1⟩

def noDefer (ops : Array Oper) : Bool := ops.all fun o => match o.op with | .defer _ => false | _ => true
set_option maxRecDepth 100000 in
theorem noDefer_spec {ops : Array Oper} (h : noDefer ops = true) : ∀ (i : Nat) (o : Oper), ops[i]? = some o → ∀ c, o.op ≠ .defer c := by
  intro i o ho c hc
  simp only [noDefer, Array.all_eq_true_iff_forall_mem] at h
  have h1 := h o (Array.mem_of_getElem? ho)
  rw [hc] at h1
  cases h1
set_option maxRecDepth 100000 in
theorem wp_region_round {P : Program} {ops : Array Oper} {Q : Exit → Act → World → Prop} {l n : Nat} (hold : Nat → Bool) (S : World → Prop) {id : Nat} {a : Act} {w : World} (hm : P.follows .mixedOrders = true) (hnd : noDefer ops = true) (hQ : ¬ LetsOut Q)
    (h : wpAnyK P .any ops Q hold S ops.size (Array.replicate ops.size false) a w.drew) : (Code.region id ops true).wpIn (Fence.wide.inRound l) n P Q a w :=
  wpIn_region_any hm (wpAnyIn_round (noDefer_spec hnd) hQ _ _ _ _ (wpAny_of_K _ _ _ _ h))

set_option maxRecDepth 100000 in
theorem chunk_stops (nn : Nat) (B1 B2 g off n c : Nat) (hn : n ≤ 1048576) (hc : n ≤ c) (w : World) (h1 : w.heap[B1]? = some (.cells #[.slice (some ⟨g, off, none⟩) n c] 45 (0, 0))) (h2 : w.heap[B2]? = some (.cells #[.int .i64 256] 3 (0, 0))) :
    SeqStopsK Fence.wide nn Try.prog 106 #[.pointer (some ⟨B1, 0, none⟩), .pointer (some ⟨B2, 0, none⟩)] (fun j : Nat => #[pieceV g off n j]) (TwoK B1 B2) (fun ys => ys = List.range ((n + 255) / 256)) (fun _ => True) ((n + 255) / 256) w := fun l J Jx W hW hJ hJx hY h0 => by
  have l1 : B1 < w.heap.size := (Array.getElem?_eq_some_iff.1 h1).1
  have l2 : B2 < w.heap.size := (Array.getElem?_eq_some_iff.1 h2).1
  refine chunk63 nn l B1 B2 g off n c hn hc J Jx (fun pre V hV => hJ pre V V.drew none hV ⟨rfl, rfl, rfl, Nat.le_refl _, fun _ _ _ => rfl⟩ (fun r e => by cases e)) hY W ((hW.block B1 l1).trans h1) ((hW.block B2 l2).trans h2) h0
end Go.Proofs.Ytpjelmlbikmddaa
