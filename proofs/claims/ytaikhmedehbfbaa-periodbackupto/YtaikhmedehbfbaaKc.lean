/- Periods of whatever slice behind a row of the call's own. -/
import Derived.Test.YtaikhmedehbfbaaEg
namespace Go.Proofs.Ytaikhmedehbfbaa
open Go.RowKit
set_option linter.unusedVariables false

theorem own_builtP (w : World) : OwnP (w.alloc (.cells #[] 23)) (.slice (some ⟨w.heap.size, 0, none⟩) 0 0) [] :=
  World.ownsRow_made w _ 0 (Nat.zero_le _) (by unfold maxLen; omega) (by simp)
/-- Periods go behind a row of the call's own. -/
theorem wpList_catQ {w : World} {ops : Array Oper} {rest : List Oper} {o : Oper} {act : Act} {Q : Exit → Act → World → Prop} (hgd : o.guard = none) (s x : Operand)
    (ho : o.op = .call { callee := .builtin .append, args := #[s, x], argTypes := #[24, 24] }) (v : Value) (L : List Per) (hs : act.eval s = v) (hown : OwnP w v L)
    (ax : Option Addr) (cx : Nat) (M : List Per) (hx : act.eval x = .slice ax M.length cx) (hm : Pers w ax M) (hc : ax = none → cx = 0) (hlen : L.length + M.length ≤ 8796093022208)
    (h : ∀ v' w', OwnP w' v' (L ++ M) → Fr w w' (fun k => v.ownBlock = some k) → Fresh w v v' → wpList Try.prog ops Q rest (act.put o.dst v') w') : wpList Try.prog ops Q (o :: rest) act w := by
  cases ax with
  | none => exact wpList_catP hgd s x ho v L hs hown none cx M hx hm hc (fun z hz => absurd hz (by simp)) hlen h
  | some z =>
    rcases hm with hM | ⟨g, off, he, hcell⟩
    · subst hM
      obtain ⟨i, hi, hz, hs9, hby⟩ := full23
      obtain ⟨v', w', hr, q1, q2, q3⟩ := run_append_gen (P := Try.prog) w 24 o.type 23 i _ 2 16 Try.underlying24 hi hz hs9 hby rfl (by omega) v L.length (encP L) hown z 0 cx [] rfl
        (fun j u hu => by simp at hu) (by simp) (by unfold maxLen; simp at hlen; omega) (by simp at hlen; omega)
      refine wpList_plain hgd fun _ hK => wp_append_to s x 24 ho _ rfl _ rfl _ _ hs hx _ _ hr (hK _ _ (h v' w' ?_ (Fr.grown q2) q3))
      unfold OwnP
      simpa using q1
    · exact wpList_catP hgd s x ho v L hs hown (some z) cx M hx (.inr ⟨g, off, he, hcell⟩) hc (fun y hy => by rw [← Option.some.inj hy, Option.some.inj he]) hlen h
theorem OwnP.part {w : World} {a : Option Addr} {n c : Nat} {L M : List Per} (h : OwnP w (.slice a n c) (L ++ M)) : Pers w a L := by
  rcases h.pers with h1 | ⟨g, off, rfl, hc⟩
  · left
    have := congrArg List.length h1
    simp at this
    exact this.1
  · refine .inr ⟨g, off, rfl, fun j p hp => hc j p ?_⟩
    rw [List.getElem?_append_left (List.getElem?_eq_some_iff.1 hp).1]
    exact hp
end Go.Proofs.Ytaikhmedehbfbaa
