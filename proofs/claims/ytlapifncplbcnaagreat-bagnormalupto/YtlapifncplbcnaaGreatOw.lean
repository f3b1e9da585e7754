/- Rows of elements of any kind: somewhere, or of the call's own. -/
import Derived.Test.YtlapifncplbcnaaGreatB
import Derived.OwnWalk
namespace Go.Proofs.YtlapifncplbcnaaGreat
open Go.RowKit
set_option maxRecDepth 100000
set_option linter.unusedVariables false
set_option linter.unusedSimpArgs false

/-- A kind of elements: how they stand in memory. -/
structure El (α : Type) where
  sl : TypeId
  ty : TypeId
  k : Nat
  bys : Nat
  z : Value
  enc : α → List Value
  len : ∀ x, (enc x).length = k
  one : ∀ x, ∀ v ∈ enc x, v.oneCell' = true
  pos : 0 < k
  small : bys ≤ 64
  und : Tryz.prog.underlying sl = some (.slice ty)
  info : ∃ i, Tryz.prog.info? ty = some i ∧ i.zero = some z ∧ i.size = k ∧ i.bytes = bys
  zs : z.cells.size = k
section
variable {α : Type} (E : El α)
def El.encs (L : List α) : List Value := L.flatMap E.enc
theorem El.length_encs (L : List α) : (E.encs L).length = L.length * E.k := by
  induction L with
  | nil => simp [El.encs]
  | cons p L ih =>
    have e : E.encs (p :: L) = E.enc p ++ E.encs L := by simp [El.encs]
    rw [e, List.length_append, ih, E.len, List.length_cons, Nat.add_mul, Nat.one_mul, Nat.add_comm]
theorem El.encs_append (a b : List α) : E.encs (a ++ b) = E.encs a ++ E.encs b := by simp [El.encs]
theorem El.encs_one (a : List α) : ∀ v ∈ E.encs a, v.oneCell' = true := by
  intro v hv
  obtain ⟨p, _, hp⟩ := List.mem_flatMap.1 hv
  exact E.one p v hp
theorem El.encs_get (L : List α) (j : Nat) (p : α) (h : L[j]? = some p) (i : Nat) (hi : i < E.k) : (E.encs L)[j * E.k + i]? = (E.enc p)[i]? := by
  induction L generalizing j with
  | nil => simp at h
  | cons x L ih =>
    have e : E.encs (x :: L) = E.enc x ++ E.encs L := by simp [El.encs]
    cases j with
    | zero =>
      simp at h; subst h
      rw [e, List.getElem?_append_left (by rw [E.len]; omega)]
      simp
    | succ j =>
      simp at h
      rw [e, List.getElem?_append_right (by rw [E.len, Nat.add_mul, Nat.one_mul]; omega)]
      have : (j + 1) * E.k + i - (E.enc x).length = j * E.k + i := by rw [E.len, Nat.add_mul, Nat.one_mul]; omega
      rw [this]
      exact ih j h
/-- Elements somewhere in a block. -/
def Row (w : World) (a : Option Addr) (L : List α) : Prop := L = [] ∨ ∃ g off, a = some ⟨g, off, none⟩ ∧ ∀ j u, (E.encs L)[j]? = some u → w.cell? ⟨g, off + j, none⟩ = some u
variable {E}
theorem Row.fr {w w' : World} {X : Nat → Prop} {a : Option Addr} {L : List α} (h : Row E w a L) (hf : Fr w w' X) (hx : ∀ g off, a = some ⟨g, off, none⟩ → g < w.heap.size → ¬ X g) : Row E w' a L := by
  rcases h with h | ⟨g, off, rfl, hc⟩
  · exact .inl h
  · refine .inr ⟨g, off, rfl, fun j u hu => ?_⟩
    have h1 := hc j u hu
    have hb : g < w.heap.size := World.block_lt_of_cell? w _ h1
    rw [World.cell?_of_block (w := w) (hf.block g hb (hx g off rfl hb))]
    exact h1
theorem Row.nil (w : World) (a : Option Addr) : Row E w a [] := .inl rfl
theorem Row.at {w : World} {g off : Nat} {L : List α} (h : Row E w (some ⟨g, off, none⟩) L) {j : Nat} {p : α} (hp : L[j]? = some p) {i : Nat} {u : Value} (hu : (E.enc p)[i]? = some u) : w.cell? ⟨g, off + j * E.k + i, none⟩ = some u := by
  rcases h with h | ⟨g', off', e, hc⟩
  · subst h; simp at hp
  · injection e with e
    injection e with e1 e2
    subst e1 e2
    have hi : i < E.k := by have := (List.getElem?_eq_some_iff.1 hu).1; rw [E.len] at this; exact this
    rw [Nat.add_assoc]
    exact hc _ u (by rw [E.encs_get L j p hp i hi]; exact hu)
theorem Row.block {w : World} {a : Option Addr} {L : List α} (h : Row E w a L) {j : Nat} {p : α} (hp : L[j]? = some p) : ∃ g off, a = some ⟨g, off, none⟩ ∧ g < w.heap.size := by
  rcases h with h | ⟨g, off, rfl, hc⟩
  · subst h; simp at hp
  · have h0 : ∃ u, (E.enc p)[0]? = Option.some u := ⟨_, List.getElem?_eq_getElem (by rw [E.len]; exact E.pos)⟩
    obtain ⟨u, hu⟩ := h0
    exact ⟨g, off, rfl, World.block_lt_of_cell? w _ (Row.at (E := E) (L := L) (w := w) (g := g) (off := off) (.inr ⟨g, off, rfl, hc⟩) hp hu)⟩
/-- A part of a row. -/
theorem Row.part {w : World} {g off : Nat} {A B C : List α} (h : Row E w (some ⟨g, off, none⟩) (A ++ B ++ C)) : Row E w (some ⟨g, off + A.length * E.k, none⟩) B := by
  by_cases hB : B = []
  · exact .inl hB
  rcases h with h | ⟨g', off', e, hc⟩
  · exact absurd (List.append_eq_nil_iff.1 (List.append_eq_nil_iff.1 h).1).2 hB
  · injection e with e
    injection e with e1 e2
    subst e1 e2
    refine .inr ⟨_, _, rfl, fun j u hu => ?_⟩
    rw [Nat.add_assoc]
    refine hc _ u ?_
    rw [E.encs_append, E.encs_append, List.append_assoc, List.getElem?_append_right (by rw [E.length_encs]; omega), E.length_encs, Nat.add_sub_cancel_left, List.getElem?_append_left (List.getElem?_eq_some_iff.1 hu).1]
    exact hu
variable (E)
/-- A row of the call's own. -/
def Own (w : World) (v : Value) (L : List α) : Prop := w.ownsRow 0 E.ty E.k v L.length (E.encs L)
theorem Own.nil (w : World) : Own E w (.slice none 0 0) [] := World.ownsRow_nil w 0 E.ty E.k
variable {E}
theorem Own.fr {w w' : World} {X : Nat → Prop} {v : Value} {L : List α} (h : Own E w v L) (hf : Fr w w' X) (hx : ∀ k, v.ownBlock = some k → ¬ X k) : Own E w' v L := ownsRow_fr h hf hx
theorem Own.shape {w : World} {v : Value} {L : List α} (h : Own E w v L) : ∃ a c, v = .slice a L.length c ∧ L.length ≤ c ∧ (a = none → c = 0 ∧ L = []) ∧ c ≤ maxLen ∧ (∀ x, a = some x → ∃ g, x = ⟨g, 0, none⟩) := by
  rcases h.2 with ⟨h1, h2⟩ | ⟨g, cap, cur, hv, _, _, hle, hmx, _⟩
  · exact ⟨none, 0, by rw [h1, h2], by omega, fun _ => ⟨rfl, List.eq_nil_of_length_eq_zero h2⟩, Nat.zero_le _, fun x hx => by cases hx⟩
  · exact ⟨_, cap, hv, hle, by simp, hmx, fun x hx => by injection hx with hx; exact ⟨g, hx.symm⟩⟩
theorem Own.row {w : World} {a : Option Addr} {n c : Nat} {L : List α} (h : Own E w (.slice a n c) L) : Row E w a L := by
  rcases h.2 with ⟨h1, h2⟩ | ⟨g, cap, cur, hv, _, hg, hle, _, hcs, htk⟩
  · exact .inl (List.eq_nil_of_length_eq_zero h2)
  · simp only [Value.slice.injEq] at hv
    obtain ⟨rfl, rfl, rfl⟩ := hv
    refine .inr ⟨g, 0, rfl, fun j u hu => ?_⟩
    have hj : j < L.length * E.k := by have := (List.getElem?_eq_some_iff.1 hu).1; rw [E.length_encs] at this; exact this
    rw [cell_of_row _ _ _ _ _ _ hg, Nat.zero_add, ← Array.getElem?_toList]
    rw [← htk, List.getElem?_take, if_pos hj] at hu
    exact hu
theorem Own.lt {w : World} {v : Value} {L : List α} (h : Own E w v L) {q : Nat} (hq : v.ownBlock = some q) : q < w.heap.size := ownsRow_lt h hq
theorem Own.made (w : World) : Own E (w.alloc (.cells #[] E.ty)) (.slice (some ⟨w.heap.size, 0, none⟩) 0 0) [] := by
  have := World.ownsRow_made (e := E.ty) (size := E.k) w #[] 0 (Nat.zero_le _) (by unfold maxLen; omega) (by simp)
  exact this
theorem Row.cells {w : World} {z : Addr} {M : List α} (h : Row E w (some z) M) : ∀ j u, (E.encs M)[j]? = some u → w.cell? (z.add j) = some u := by
  rcases h with h | ⟨g', off', he, hc⟩
  · subst h; intro j u hu; simp [El.encs] at hu
  · injection he with he
    subst he
    intro j u hu
    rw [Addr.add_mid]
    exact hc j u hu
/-- The same as one operation. -/
theorem wp_cat (E : El α) {w : World} {o : Oper} {act : Act} {K : Act → World → Prop} {Q : Exit → Act → World → Prop} (s x : Operand)
    (ho : o.op = .call { callee := .builtin .append, args := #[s, x], argTypes := #[E.sl, E.sl] }) (d : Option Tmp) (hd : o.dst = d) (v : Value) (L : List α) (hs : act.eval s = v) (hown : Own E w v L)
    (ax : Option Addr) (n cx : Nat) (M : List α) (hn : M.length = n) (hx : act.eval x = .slice ax n cx) (hm : Row E w ax M) (hc : ax = none → cx = 0) (hlen : L.length + n ≤ 2199023255552)
    (h : ∀ v' w', Own E w' v' (L ++ M) → Fr w w' (fun k => v.ownBlock = some k) → Fresh w v v' → K (act.put d v') w') : o.wp Tryz.prog act w K Q := by
  obtain ⟨i, hi, hz, hs9, hby⟩ := E.info
  subst hn
  cases ax with
  | none =>
    have hM : M = [] := by rcases hm with h1 | ⟨_, _, h1, _⟩; exact h1; cases h1
    subst hM
    rw [hc rfl] at hx
    have hr := run_append_owned_none (P := Tryz.prog) w 0 E.sl o.type E.ty i E.k E.und hi v L.length (E.encs L) hown
    refine wp_append_to s x E.sl ho d hd _ rfl _ _ hs hx _ _ hr (h v w ?_ (Fr.refl _ _) (.inl rfl))
    rw [List.append_nil]; exact hown
  | some z =>
    obtain ⟨v', w', hr, q1, q2, q3⟩ := run_append_gen (P := Tryz.prog) w E.sl o.type E.ty i _ E.k E.bys E.und hi hz hs9 hby E.zs E.pos v L.length (E.encs L) hown z M.length cx (E.encs M) (by rw [E.length_encs])
      hm.cells (E.encs_one M) (by unfold maxLen; omega) (by have := E.small; have : (L.length + M.length) * E.bys ≤ 2199023255552 * 64 := Nat.mul_le_mul hlen this; omega)
    refine wp_append_to s x E.sl ho d hd _ rfl _ _ hs hx _ _ hr (h v' w' ?_ (Fr.grown q2) q3)
    unfold Own; rw [List.length_append, E.encs_append]; exact q1
/-- Elements go behind a row of the call's own. -/
theorem wpList_cat (E : El α) {w : World} {ops : Array Oper} {rest : List Oper} {o : Oper} {act : Act} {Q : Exit → Act → World → Prop} (hgd : o.guard = none) (s x : Operand)
    (ho : o.op = .call { callee := .builtin .append, args := #[s, x], argTypes := #[E.sl, E.sl] }) (v : Value) (L : List α) (hs : act.eval s = v) (hown : Own E w v L)
    (ax : Option Addr) (n cx : Nat) (M : List α) (hn : M.length = n) (hx : act.eval x = .slice ax n cx) (hm : Row E w ax M) (hc : ax = none → cx = 0) (hlen : L.length + n ≤ 2199023255552)
    (h : ∀ v' w', Own E w' v' (L ++ M) → Fr w w' (fun k => v.ownBlock = some k) → Fresh w v v' → wpList Tryz.prog ops Q rest (act.put o.dst v') w') : wpList Tryz.prog ops Q (o :: rest) act w := by
  obtain ⟨i, hi, hz, hs9, hby⟩ := E.info
  subst hn
  cases ax with
  | none =>
    have hM : M = [] := by rcases hm with h1 | ⟨_, _, h1, _⟩; exact h1; cases h1
    subst hM
    rw [hc rfl] at hx
    have hr := run_append_owned_none (P := Tryz.prog) w 0 E.sl o.type E.ty i E.k E.und hi v L.length (E.encs L) hown
    refine wpList_plain hgd fun _ hK => wp_append_to s x E.sl ho _ rfl _ rfl _ _ hs hx _ _ hr (hK _ _ (h v w ?_ (Fr.refl _ _) (.inl rfl)))
    rw [List.append_nil]; exact hown
  | some z =>
    obtain ⟨v', w', hr, q1, q2, q3⟩ := run_append_gen (P := Tryz.prog) w E.sl o.type E.ty i _ E.k E.bys E.und hi hz hs9 hby E.zs E.pos v L.length (E.encs L) hown z M.length cx (E.encs M) (by rw [E.length_encs])
      hm.cells (E.encs_one M) (by unfold maxLen; omega) (by have := E.small; have : (L.length + M.length) * E.bys ≤ 2199023255552 * 64 := Nat.mul_le_mul hlen this; omega)
    refine wpList_plain hgd fun _ hK => wp_append_to s x E.sl ho _ rfl _ rfl _ _ hs hx _ _ hr (hK _ _ (h v' w' ?_ (Fr.grown q2) q3))
    unfold Own; rw [List.length_append, E.encs_append]; exact q1
theorem Row.new (E : El α) (w : World) (M : List α) (cs : Array Value) (hcs : cs = (E.encs M).toArray) : Row E (w.alloc (.cells cs E.ty)) (some ⟨w.heap.size, 0, none⟩) M := by
  subst hcs
  refine .inr ⟨_, 0, rfl, fun j u hu => ?_⟩
  rw [cell_of_row _ _ _ _ _ _ (heap_alloc_new w _), Nat.zero_add, List.getElem?_toArray]
  exact hu
/-- Elements that were just laid go behind a row of the call's own. -/
theorem wpList_push (E : El α) {w : World} {ops : Array Oper} {rest : List Oper} {o : Oper} {act : Act} {Q : Exit → Act → World → Prop} (hgd : o.guard = none) (s x : Operand)
    (ho : o.op = .call { callee := .builtin .append, args := #[s, x], argTypes := #[E.sl, E.sl] }) (v : Value) (L : List α) (hs : act.eval s = v) (hown : Own E w v L)
    (M : List α) (g n c : Nat) (hn : M.length = n) (hx : act.eval x = .slice (some ⟨g, 0, none⟩) n c) (hg : w.heap.size = g) (hlen : L.length + M.length ≤ 2199023255552) (cs : Array Value) (hcs : cs = (E.encs M).toArray)
    (h : ∀ v' w', Own E w' v' (L ++ M) → Fr w w' (fun k => v.ownBlock = some k) → Fresh w v v' → wpList Tryz.prog ops Q rest (act.put o.dst v') w') : wpList Tryz.prog ops Q (o :: rest) act (w.alloc (.cells cs E.ty)) := by
  subst hg hn
  have A := Fr.alloc w (.cells cs E.ty) (fun _ => False)
  refine wpList_cat E hgd s x ho v L hs (hown.fr A (by simp)) _ M.length c M rfl hx (Row.new E w M cs hcs) (by simp) hlen (fun v' w' q1 q2 q3 => h v' w' q1 ((A.trans q2).mono ?_) ?_)
  · rintro k _ (h1 | h1); exact h1.elim; exact h1
  · rcases q3 with h1 | ⟨k, h1, h2⟩
    · exact .inl h1
    · exact .inr ⟨k, h1, by simp at h2; omega⟩
/-- One cell of an element is changed. -/
theorem Own.put {w : World} {g n c : Nat} {L : List α} (h : Own E w (.slice (some ⟨g, 0, none⟩) n c) L) {j : Nat} {p q : α} (hp : L[j]? = some p) {i : Nat} {u : Value} (hq : E.enc q = (E.enc p).set i u) (hi : i < E.k) :
    Own E (w.setCell ⟨g, j * E.k + i, none⟩ u) (.slice (some ⟨g, 0, none⟩) n c) (L.set j q) := by
  have hj : j < L.length := (List.getElem?_eq_some_iff.1 hp).1
  have hjk : j * E.k + i < L.length * E.k := by
    have : (j + 1) * E.k ≤ L.length * E.k := Nat.mul_le_mul_right _ (by omega)
    rw [Nat.add_mul, Nat.one_mul] at this; omega
  have henc : E.encs (L.set j q) = (E.encs L).set (j * E.k + i) u := by
    clear h hj hjk
    induction L generalizing j with
    | nil => simp at hp
    | cons x L ih =>
      cases j with
      | zero =>
        simp at hp; subst hp
        have e1 : E.encs (x :: L) = E.enc x ++ E.encs L := by simp [El.encs]
        have e2 : E.encs (q :: L) = E.enc q ++ E.encs L := by simp [El.encs]
        rw [List.set_cons_zero, e1, e2, hq, Nat.zero_mul, Nat.zero_add, List.set_append_left _ _ (by rw [E.len]; exact hi)]
      | succ j =>
        simp at hp
        have e1 : E.encs (x :: L) = E.enc x ++ E.encs L := by simp [El.encs]
        have e2 : E.encs (x :: L.set j q) = E.enc x ++ E.encs (L.set j q) := by simp [El.encs]
        rw [List.set_cons_succ, e1, e2, ih hp, List.set_append_right _ _ (by rw [E.len, Nat.add_mul, Nat.one_mul]; omega), E.len]
        congr 2
        rw [Nat.add_mul, Nat.one_mul]; omega
  refine ⟨by rw [E.length_encs], ?_⟩
  rcases h.2 with ⟨h1, h2⟩ | ⟨g', cap, cur, hv, hb, hg, hle, hmx, hcs, htk⟩
  · simp at h1
  · simp only [Value.slice.injEq, Option.some.injEq, Addr.mk.injEq, and_true] at hv
    obtain ⟨rfl, rfl, rfl⟩ := hv
    refine .inr ⟨g, c, cur.setIfInBounds (j * E.k + i) u, by rw [List.length_set], hb, heap_setCell_here w g _ _ _ _ _ hg, by rw [List.length_set]; exact hle, hmx, by rw [Array.size_setIfInBounds]; exact hcs, ?_⟩
    rw [Array.toList_setIfInBounds, List.length_set, henc, ← htk, List.take_set]
end
end Go.Proofs.YtlapifncplbcnaaGreat
