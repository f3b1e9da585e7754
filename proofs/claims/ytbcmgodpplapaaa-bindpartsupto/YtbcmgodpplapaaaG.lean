/- Rows of terms and of kinds; boxes; literals. -/
import Derived.Test.YtbcmgodpplapaaaF
namespace Go.Proofs.Ytbcmgodpplapaaa
open Go.RowKit
set_option maxRecDepth 100000
set_option linter.unusedVariables false
set_option linter.unusedSimpArgs false

section
variable {P : Program} {ops : Array Oper} {Q : Exit → Act → World → Prop} {md : Region.Mode} {S : World → Prop} {hold : Nat → Bool}
theorem wpAnyK_two {i j : Nat} {oi oj : Oper} {fuel : Nat} {listed : Array Bool} {a : Act} {w : World} (hr : Region.ready md ops listed = [i, j]) (hi : ops[i]? = some oi) (hj : ops[j]? = some oj) (hgi : oi.guard = none) (hgj : oj.guard = none)
    (h1 : Oper.wp P oi a w (fun a' w' => (hold i = true → S w') ∧ wpAnyK P md ops Q hold S fuel (listed.setIfInBounds i true) a' w') Q)
    (h2 : Oper.wp P oj a w (fun a' w' => (hold j = true → S w') ∧ wpAnyK P md ops Q hold S fuel (listed.setIfInBounds j true) a' w') Q) : wpAnyK P md ops Q hold S (fuel + 1) listed a w := by
  refine ⟨fun h0 => (by rw [hr] at h0; cases h0), fun k hk => ?_⟩
  rw [hr] at hk
  rcases List.mem_cons.1 hk with rfl | hk
  · unfold wpOp
    have gi : Region.wanted oi (yielded ops a.tmps) = true := by simp [Region.wanted, hgi]
    simp only [hi, gi, if_true]
    exact .inl h1
  · obtain rfl : k = j := by simpa using hk
    unfold wpOp
    have gj : Region.wanted oj (yielded ops a.tmps) = true := by simp [Region.wanted, hgj]
    simp only [hj, gj, if_true]
    exact .inl h2
end
/-- A call that may give up. -/
theorem wp_call_or {P : Program} {o : Oper} {a : Act} {w : World} {K : Act → World → Prop} {Q : Exit → Act → World → Prop} (d : Option Tmp) (hd : o.dst = d) (f : FuncId) (args : Array Value)
    (hrun : (execOp a.eval o).run P w = .ok (.enter f args) w) {Post : Ending → World → Prop} (hc : Calls P f args w Post) (hK : ∀ e w', Post e w' → (∃ v, e = .returned v ∧ K (a.put d v) w') ∨ (∃ c, e = .panicked c ∧ Q (.panic c) a w')) : o.wp P a w K Q := by
  subst hd
  unfold Oper.wp
  rw [hrun, Oper.upon_enter]
  refine hc.mono fun e w' hp => ?_
  rcases hK e w' hp with ⟨v, rfl, hk⟩ | ⟨c, rfl, hk⟩
  · exact hk
  · exact hk

/-- A box of seven cells. -/
structure Sev (w : World) (g : Nat) (x0 x1 x2 x3 x4 x5 x6 : Value) : Prop where
  c0 : w.cell? ⟨g, 0, none⟩ = some x0
  c1 : w.cell? ⟨g, 1, none⟩ = some x1
  c2 : w.cell? ⟨g, 2, none⟩ = some x2
  c3 : w.cell? ⟨g, 3, none⟩ = some x3
  c4 : w.cell? ⟨g, 4, none⟩ = some x4
  c5 : w.cell? ⟨g, 5, none⟩ = some x5
  c6 : w.cell? ⟨g, 6, none⟩ = some x6
  z : ∀ j, w.frozen? ⟨g, j, none⟩ = false
theorem sev_of {w : World} {g : Nat} {x0 x1 x2 x3 x4 x5 x6 : Value} {t : TypeId} (h : w.heap[g]? = some (.cells #[x0, x1, x2, x3, x4, x5, x6] t (0, 0))) : Sev w g x0 x1 x2 x3 x4 x5 x6 := by
  refine ⟨?_, ?_, ?_, ?_, ?_, ?_, ?_, ?_⟩
  all_goals first | (rw [cell_of_row _ _ _ _ _ _ h]; rfl) | (intro j; simp [World.frozen?, h])
theorem Sev.fr {w w' : World} {X : Nat → Prop} {g : Nat} {x0 x1 x2 x3 x4 x5 x6 : Value} (h : Sev w g x0 x1 x2 x3 x4 x5 x6) (hf : Fr w w' X) (hx : ¬ X g) : Sev w' g x0 x1 x2 x3 x4 x5 x6 := by
  have hb := hf.block g (World.block_lt_of_cell? w _ h.c0) hx
  have e : ∀ o, w'.cell? ⟨g, o, none⟩ = w.cell? ⟨g, o, none⟩ := fun o => World.cell?_of_block (w := w) hb
  exact ⟨by rw [e]; exact h.c0, by rw [e]; exact h.c1, by rw [e]; exact h.c2, by rw [e]; exact h.c3, by rw [e]; exact h.c4, by rw [e]; exact h.c5, by rw [e]; exact h.c6, fun j => by rw [World.frozen?_of_block (w := w) hb]; exact h.z j⟩
def fill7 (w : World) (g : Nat) (x0 x1 x2 x3 x4 x5 x6 : Value) : World := ((((((w.setCell ⟨g, 0, none⟩ x0).setCell ⟨g, 1, none⟩ x1).setCell ⟨g, 2, none⟩ x2).setCell ⟨g, 3, none⟩ x3).setCell ⟨g, 4, none⟩ x4).setCell ⟨g, 5, none⟩ x5).setCell ⟨g, 6, none⟩ x6
theorem cell_set {w : World} {g i j : Nat} {v x : Value} (h : w.cell? ⟨g, i, none⟩ = some x) : (w.setCell ⟨g, j, none⟩ v).cell? ⟨g, i, none⟩ = some (if i = j then v else x) := by
  by_cases hij : i = j
  · subst hij; rw [if_pos rfl]; exact World.cell?_setCell_same _ _ _ h
  · rw [if_neg hij, World.cell?_setCell_other _ _ _ _ (by simp [hij])]; exact h
theorem Sev.set {w : World} {g : Nat} {x0 x1 x2 x3 x4 x5 x6 : Value} (h : Sev w g x0 x1 x2 x3 x4 x5 x6) (j : Nat) (v : Value) : Sev (w.setCell ⟨g, j, none⟩ v) g (if 0 = j then v else x0) (if 1 = j then v else x1) (if 2 = j then v else x2) (if 3 = j then v else x3) (if 4 = j then v else x4) (if 5 = j then v else x5) (if 6 = j then v else x6) :=
  ⟨cell_set h.c0, cell_set h.c1, cell_set h.c2, cell_set h.c3, cell_set h.c4, cell_set h.c5, cell_set h.c6, fun i => by rw [World.frozen?_setCell]; exact h.z i⟩
theorem Sev.fill {w : World} {g : Nat} {y0 y1 y2 y3 y4 y5 y6 : Value} (h : Sev w g y0 y1 y2 y3 y4 y5 y6) (x0 x1 x2 x3 x4 x5 x6 : Value) : Sev (fill7 w g x0 x1 x2 x3 x4 x5 x6) g x0 x1 x2 x3 x4 x5 x6 :=
  ((((((h.set 0 x0).set 1 x1).set 2 x2).set 3 x3).set 4 x4).set 5 x5).set 6 x6
theorem fill7_fr (w : World) (g : Nat) (x0 x1 x2 x3 x4 x5 x6 : Value) : Fr w (fill7 w g x0 x1 x2 x3 x4 x5 x6) (fun k => k = g) :=
  (((((((Fr.setCell w ⟨g, 0, none⟩ x0).trans (Fr.setCell _ ⟨g, 1, none⟩ x1)).trans (Fr.setCell _ ⟨g, 2, none⟩ x2)).trans (Fr.setCell _ ⟨g, 3, none⟩ x3)).trans (Fr.setCell _ ⟨g, 4, none⟩ x4)).trans (Fr.setCell _ ⟨g, 5, none⟩ x5)).trans (Fr.setCell _ ⟨g, 6, none⟩ x6)).mono (fun k _ h => by simpa using h)
theorem Sev.range {w : World} {g : Nat} {x0 x1 x2 x3 x4 x5 x6 : Value} (h : Sev w g x0 x1 x2 x3 x4 x5 x6) : w.rangeAt g 0 [x0, x1, x2, x3, x4, x5, x6] := by
  intro j v hv
  match j, hv with
  | 0, hv => simp only [List.getElem?_cons_zero, Option.some.injEq] at hv; subst hv; exact h.c0
  | 1, hv => simp only [List.getElem?_cons_succ, List.getElem?_cons_zero, Option.some.injEq] at hv; subst hv; exact h.c1
  | 2, hv => simp only [List.getElem?_cons_succ, List.getElem?_cons_zero, Option.some.injEq] at hv; subst hv; exact h.c2
  | 3, hv => simp only [List.getElem?_cons_succ, List.getElem?_cons_zero, Option.some.injEq] at hv; subst hv; exact h.c3
  | 4, hv => simp only [List.getElem?_cons_succ, List.getElem?_cons_zero, Option.some.injEq] at hv; subst hv; exact h.c4
  | 5, hv => simp only [List.getElem?_cons_succ, List.getElem?_cons_zero, Option.some.injEq] at hv; subst hv; exact h.c5
  | 6, hv => simp only [List.getElem?_cons_succ, List.getElem?_cons_zero, Option.some.injEq] at hv; subst hv; exact h.c6
theorem info53 : (Try.prog.info? 53).map (·.size) = some 7 := by kernel_rfl
theorem results_tm {fn : Func} {p : Tmp} (h : fn.results = #[.cell p 53]) (tmps : Array Value) (w : World) (g : Nat) {x0 x1 x2 x3 x4 x5 x6 : Value} (ht : Sev w g x0 x1 x2 x3 x4 x5 x6) (hp : tmps.getD p undef = .pointer (some ⟨g, 0, none⟩)) :
    (results fn tmps).run Try.prog w = .ok (.agg #[x0, x1, x2, x3, x4, x5, x6]) w := by
  have hp' : tmps[p]?.getD undef = .pointer (some ⟨g, 0, none⟩) := by simpa using hp
  simp [results, h, hp', asAddr, run_loadVar_mid (P := Try.prog) w g 0 53 [x0, x1, x2, x3, x4, x5, x6] _ ht.range Try.underlying53 rfl info53]
/-- A box of three cells. -/
structure Tri (w : World) (g : Nat) (x0 x1 x2 : Value) : Prop where
  c0 : w.cell? ⟨g, 0, none⟩ = some x0
  c1 : w.cell? ⟨g, 1, none⟩ = some x1
  c2 : w.cell? ⟨g, 2, none⟩ = some x2
  z : ∀ j, w.frozen? ⟨g, j, none⟩ = false
theorem tri_of {w : World} {g : Nat} {x0 x1 x2 : Value} {t : TypeId} (h : w.heap[g]? = some (.cells #[x0, x1, x2] t (0, 0))) : Tri w g x0 x1 x2 := by
  refine ⟨?_, ?_, ?_, ?_⟩
  all_goals first | (rw [cell_of_row _ _ _ _ _ _ h]; rfl) | (intro j; simp [World.frozen?, h])
theorem Tri.fr {w w' : World} {X : Nat → Prop} {g : Nat} {x0 x1 x2 : Value} (h : Tri w g x0 x1 x2) (hf : Fr w w' X) (hx : ¬ X g) : Tri w' g x0 x1 x2 := by
  have hb := hf.block g (World.block_lt_of_cell? w _ h.c0) hx
  have e : ∀ o, w'.cell? ⟨g, o, none⟩ = w.cell? ⟨g, o, none⟩ := fun o => World.cell?_of_block (w := w) hb
  exact ⟨by rw [e]; exact h.c0, by rw [e]; exact h.c1, by rw [e]; exact h.c2, fun j => by rw [World.frozen?_of_block (w := w) hb]; exact h.z j⟩
def fill3 (w : World) (g : Nat) (x0 x1 x2 : Value) : World := ((w.setCell ⟨g, 0, none⟩ x0).setCell ⟨g, 1, none⟩ x1).setCell ⟨g, 2, none⟩ x2
theorem Tri.set {w : World} {g : Nat} {x0 x1 x2 : Value} (h : Tri w g x0 x1 x2) (j : Nat) (v : Value) : Tri (w.setCell ⟨g, j, none⟩ v) g (if 0 = j then v else x0) (if 1 = j then v else x1) (if 2 = j then v else x2) :=
  ⟨cell_set h.c0, cell_set h.c1, cell_set h.c2, fun i => by rw [World.frozen?_setCell]; exact h.z i⟩
theorem Tri.fill {w : World} {g : Nat} {y0 y1 y2 : Value} (h : Tri w g y0 y1 y2) (x0 x1 x2 : Value) : Tri (fill3 w g x0 x1 x2) g x0 x1 x2 := ((h.set 0 x0).set 1 x1).set 2 x2
theorem fill3_fr (w : World) (g : Nat) (x0 x1 x2 : Value) : Fr w (fill3 w g x0 x1 x2) (fun k => k = g) :=
  (((Fr.setCell w ⟨g, 0, none⟩ x0).trans (Fr.setCell _ ⟨g, 1, none⟩ x1)).trans (Fr.setCell _ ⟨g, 2, none⟩ x2)).mono (fun k _ h => by simpa using h)
theorem Tri.range {w : World} {g : Nat} {x0 x1 x2 : Value} (h : Tri w g x0 x1 x2) : w.rangeAt g 0 [x0, x1, x2] := by
  intro j v hv
  match j, hv with
  | 0, hv => simp only [List.getElem?_cons_zero, Option.some.injEq] at hv; subst hv; exact h.c0
  | 1, hv => simp only [List.getElem?_cons_succ, List.getElem?_cons_zero, Option.some.injEq] at hv; subst hv; exact h.c1
  | 2, hv => simp only [List.getElem?_cons_succ, List.getElem?_cons_zero, Option.some.injEq] at hv; subst hv; exact h.c2
theorem info50 : (Try.prog.info? 50).map (·.size) = some 3 := by kernel_rfl
theorem results_vl {fn : Func} {p : Tmp} (h : fn.results = #[.cell p 50]) (tmps : Array Value) (w : World) (g : Nat) {x0 x1 x2 : Value} (ht : Tri w g x0 x1 x2) (hp : tmps.getD p undef = .pointer (some ⟨g, 0, none⟩)) :
    (results fn tmps).run Try.prog w = .ok (.agg #[x0, x1, x2]) w := by
  have hp' : tmps[p]?.getD undef = .pointer (some ⟨g, 0, none⟩) := by simpa using hp
  simp [results, h, hp', asAddr, run_loadVar_mid (P := Try.prog) w g 0 50 [x0, x1, x2] _ ht.range Try.underlying50 rfl info50]
set_option maxHeartbeats 1000000 in
theorem number_any (n : Int) (w : World) : Calls Try.prog 33 #[.int .i64 n] w fun e w' => e = .returned (.agg #[.int .i64 1, .int .i64 n, .string ⟨#[]⟩]) ∧ Fr w w' (fun _ => False) := by
  go_enter Try.func33, Try.ntmps33
  go_wp2
  refine bodyPost_ret (results_vl Try.results33 _ _ w.heap.size (tri_of (heap_alloc_new _ _)) rfl) rfl ⟨rfl, Fr.alloc _ _ _⟩
set_option maxHeartbeats 1000000 in
theorem literal_any (op : ByteArray) (x : Vl) (w : World) : Calls Try.prog 32 #[.string op, x.v] w fun e w' => e = .returned (.agg #[.string op, .int .i64 x.kind, .int .i64 x.kind, .int .i64 x.num, .string x.text, .int .i64 0, .slice none 0 0]) ∧ Fr w w' (fun _ => False) := by
  obtain ⟨k, n, t⟩ := x
  go_enter Try.func32, Try.ntmps32
  go_wp2
  refine bodyPost_ret (results_tm Try.results32 _ _ (w.heap.size + 1) (sev_of (by have h := heap_alloc_new (w.alloc (.cells #[.int .i64 k, .int .i64 n, .string t] 50)) (.cells #[.string op, .int .i64 k, .int .i64 k, .int .i64 n, .string t, .int .i64 0, .slice none 0 0] 53); rw [show (w.alloc (.cells #[.int .i64 k, .int .i64 n, .string t] 50)).heap.size = w.heap.size + 1 by simp] at h; exact h)) rfl) rfl ⟨rfl, ?_⟩
  exact (Fr.alloc _ _ _).two (Fr.alloc _ _ _)
end Go.Proofs.Ytbcmgodpplapaaa
