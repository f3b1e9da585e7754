/- Rows in memory; the frame; append. -/
import Derived.Test.YtbdpdobaacbkkaaDoorRows
import Derived.Test.YtbdpdobaacbkkaaDoorA
import Derived.WalkKit
import Derived.WalkSpells
import Derived.WalkLawsBesides
import Derived.Handy
import Derived.Deep.MidRow
import Derived.ArgAppend
import Derived.Laws.OwnMore
namespace Go.Proofs.YtbdpdobaacbkkaaDoor
open Go.RowKit
set_option linter.unusedVariables false


theorem hide {p : Prop} (h : p) : Hid p := h
theorem ownsRow_base {w : World} {base base' : Nat} {e : TypeId} {size : Nat} {v : Value} {n : Nat} {xs : List Value} (h : w.ownsRow base e size v n xs) (hb : base' ≤ base) : w.ownsRow base' e size v n xs := by
  refine ⟨h.1, ?_⟩
  rcases h.2 with h2 | ⟨g, cap, cur, hv, hg, r⟩
  · exact .inl h2
  · exact .inr ⟨g, cap, cur, hv, by omega, r⟩
theorem run_append_gen {P : Program} (w : World) (t ty e : TypeId) (i : TypeInfo) (z : Value) (size bytes : Nat) (ht : P.underlying t = some (.slice e)) (hi : P.info? e = some i) (hz : i.zero = some z)
    (hsize : i.size = size) (hby : i.bytes = bytes) (hzs : z.cells.size = size) (hsz : 0 < size)
    (v : Value) (n : Nat) (xs : List Value) (hown : w.ownsRow 0 e size v n xs)
    (a : Addr) (m c : Nat) (news : List Value) (hl : news.length = m * size) (hnews : ∀ j u, news[j]? = some u → w.cell? (a.add j) = some u) (h1 : ∀ u ∈ news, u.oneCell' = true)
    (h63 : n + m ≤ maxLen) (hbytes : (n + m) * bytes ≤ 140737488355328) :
    ∃ v' w', (Builtin.append_ #[t, t] ty #[v, .slice (some a) m c]).run P w = .ok v' w' ∧ w'.ownsRow 0 e size v' (n + m) (xs ++ news) ∧ w.grownBy w' v.ownBlock ∧
      (v'.ownBlock = v.ownBlock ∨ ∃ k, v'.ownBlock = some k ∧ w.heap.size ≤ k) := by
  rcases hown.2 with ⟨rfl, rfl⟩ | ⟨g, cap, cur, rfl, hg0, hg, hn, hm, hcs, htk⟩
  · have hx : xs = [] := List.eq_nil_of_length_eq_zero (by simpa using hown.1)
    subst hx
    obtain ⟨v', w', hr, r1, r2, _⟩ := run_append_own (P := P) w w.heap.size t ty e i z size bytes ht hi hz hsize hby hzs hsz _ 0 [] (World.ownsRow_nil w _ e size) a m c news hl hnews h1 h63 hbytes (Nat.le_refl _)
    refine ⟨v', w', hr, ownsRow_base r1 (Nat.zero_le _), r2, ?_⟩
    cases hv : v'.ownBlock with
    | none => exact .inl rfl
    | some k => exact .inr ⟨k, rfl, (r1.lt k hv).1⟩
  · by_cases hroom : n + m ≤ cap
    · obtain ⟨v', w', hr, r1, r2, _⟩ := run_append_own (P := P) w 0 t ty e i z size bytes ht hi hz hsize hby hzs hsz _ n xs hown a m c news hl hnews h1 h63 hbytes (Nat.zero_le _)
      refine ⟨v', w', hr, r1, r2, .inl ?_⟩
      subst hsize
      have hfit : n * i.size + news.length ≤ cur.size := by rw [hcs, hl, ← Nat.add_mul]; exact Nat.mul_le_mul_right _ hroom
      have hr2 := run_append_room (P := P) w t ty e i ht hi g n cap cur hg a m c news hl hnews h1 hroom hfit
      rw [hr2] at hr
      obtain ⟨rfl, _⟩ := Result.ok.inj hr
      rfl
    · have hcell : ∀ j u, xs[j]? = some u → w.cell? ((⟨g, 0, none⟩ : Addr).add j) = some u := hown.cells rfl
      obtain ⟨v', w', hr, r1, r2⟩ := run_append_arg_grows (P := P) w t ty e i z size bytes ht hi hz hsize hby hzs hsz ⟨g, 0, none⟩ n cap xs hown.1 hcell a m c news hl hnews (by omega) h63 hbytes
      refine ⟨v', w', hr, ownsRow_base r1 (Nat.zero_le _), ⟨r2.os, r2.tape, r2.output, r2.size, fun k hk _ => r2.block k hk (by simp)⟩, ?_⟩
      cases hv : v'.ownBlock with
      | none =>
        exfalso
        rcases r1.2 with ⟨_, h0⟩ | ⟨g', cap', cur', rfl, _⟩
        · omega
        · simp [Value.ownBlock] at hv
      | some k => exact .inr ⟨k, rfl, (r1.lt k hv).1⟩
theorem wp_append_to {P : Program} {o : Oper} {a : Act} {w : World} {K : Act → World → Prop} {Q : Exit → Act → World → Prop} (s x : Operand) (t : TypeId)
    (ho : o.op = .call { callee := .builtin .append, args := #[s, x], argTypes := #[t, t] }) (d : Option Tmp) (hd : o.dst = d) (ty : TypeId) (hty : o.type = ty) (v1 v2 : Value) (hs : a.eval s = v1) (hx : a.eval x = v2)
    (v' : Value) (w' : World) (hr : (Builtin.append_ #[t, t] ty #[v1, v2]).run P w = .ok v' w') (hK : K (a.put d v') w') : o.wp P a w K Q := by
  subst hd
  subst hty
  unfold Oper.wp execOp
  simp only [ho, resolve, invoke, builtin, Sem.run_bind, Sem.run_pure, Result.andThen_ok, List.map_toArray, List.map_cons, List.map_nil, hs, hx, hr]
  exact hK
/-- But for the blocks that X names all that was there is as it was. -/
structure Fr (w w' : World) (X : Nat → Prop) : Prop where
  os : w'.os = w.os
  tape : w'.tape = w.tape
  output : w'.output = w.output
  size : w.heap.size ≤ w'.heap.size
  block : ∀ k, k < w.heap.size → ¬ X k → w'.heap[k]? = w.heap[k]?
theorem Fr.refl (w : World) (X : Nat → Prop) : Fr w w X := ⟨rfl, rfl, rfl, Nat.le_refl _, fun _ _ _ => rfl⟩
theorem Fr.trans {a b c : World} {X Y : Nat → Prop} (h : Fr a b X) (k : Fr b c Y) : Fr a c (fun i => X i ∨ Y i) :=
  ⟨k.os.trans h.os, k.tape.trans h.tape, k.output.trans h.output, Nat.le_trans h.size k.size, fun i hi hx =>
    (k.block i (Nat.lt_of_lt_of_le hi h.size) (fun hy => hx (.inr hy))).trans (h.block i hi (fun hy => hx (.inl hy)))⟩
theorem Fr.mono {a b : World} {X Y : Nat → Prop} (h : Fr a b X) (hxy : ∀ k, k < a.heap.size → X k → Y k) : Fr a b Y :=
  ⟨h.os, h.tape, h.output, h.size, fun i hi hy => h.block i hi (fun hx => hy (hxy i hi hx))⟩
theorem Fr.drew (w : World) (X : Nat → Prop) : Fr w w.drew X := ⟨rfl, rfl, rfl, Nat.le_refl _, fun _ _ _ => rfl⟩
theorem Fr.alloc (w : World) (o : Obj) (X : Nat → Prop) : Fr w (w.alloc o) X := ⟨rfl, rfl, rfl, by simp, fun k hk _ => Below.heap_alloc w o k hk⟩
theorem Fr.grown {w w' : World} {row : Option Nat} (h : w.grownBy w' row) : Fr w w' (fun k => row = some k) :=
  ⟨h.os, h.tape, h.output, h.size, fun k hk hx => h.block k hk (fun e => hx e.symm)⟩
theorem Fr.setCell (w : World) (a : Addr) (v : Value) : Fr w (w.setCell a v) (fun k => k = a.block) :=
  ⟨rfl, rfl, rfl, by simp [World.setCell], fun k _ hx => Below.heap_setCell w a v k hx⟩
theorem Fr.below {w w' : World} {X : Nat → Prop} {B : Nat} (h : Fr w w' X) (hB : B ≤ w.heap.size) (hX : ∀ k, X k → B ≤ k) : Below B w w' :=
  ⟨h.os, h.tape, h.output, h.size, fun k hk => h.block k (by omega) (fun hx => by have := hX k hx; omega)⟩
theorem ownsRow_fr {w w' : World} {X : Nat → Prop} {base : Nat} {e : TypeId} {size : Nat} {v : Value} {n : Nat} {xs : List Value} (h : w.ownsRow base e size v n xs) (hf : Fr w w' X)
    (hx : ∀ k, v.ownBlock = some k → ¬ X k) : w'.ownsRow base e size v n xs := by
  refine ⟨h.1, ?_⟩
  rcases h.2 with hn | ⟨g, cap, cur, rfl, hb, hgg, rest⟩
  · exact .inl hn
  · refine .inr ⟨g, cap, cur, rfl, hb, ?_, rest⟩
    rw [hf.block g (Array.getElem?_eq_some_iff.1 hgg).1 (hx g rfl)]
    exact hgg
theorem rangeAt_fr {w w' : World} {X : Nat → Prop} {b o : Nat} {cs : List Value} (h : w.rangeAt b o cs) (hf : Fr w w' X) (hx : ¬ X b) : w'.rangeAt b o cs := fun j v hv => by
  have h1 := h j v hv
  have hb : b < w.heap.size := World.block_lt_of_cell? w _ h1
  rw [World.cell?_of_block (w := w) (hf.block b hb hx)]
  exact h1
theorem heap_setCell_here (w : World) (b j : Nat) (v : Value) (c : Array Value) (t : TypeId) (fr : Nat × Nat) (h : w.heap[b]? = some (.cells c t fr)) :
    (w.setCell ⟨b, j, none⟩ v).heap[b]? = some (.cells (c.setIfInBounds j v) t fr) := by
  simp [World.setCell, Array.getElem?_modify, h]
/-- The row is the one that it was, or a new one. -/
def Fresh (w : World) (v v' : Value) : Prop := v'.ownBlock = v.ownBlock ∨ ∃ k, v'.ownBlock = some k ∧ w.heap.size ≤ k
theorem Fresh.le {w : World} {v v' : Value} {B : Nat} (h : Fresh w v v') (hB : B ≤ w.heap.size) (hv : ∀ k, v.ownBlock = some k → B ≤ k) : ∀ k, v'.ownBlock = some k → B ≤ k := by
  intro k hk
  rcases h with h1 | ⟨q, h1, h2⟩
  · exact hv k (h1 ▸ hk)
  · rw [h1] at hk; injection hk; omega
theorem Fresh.trans {w w1 : World} {v x y : Value} (h : Fresh w v x) (hs : w.heap.size ≤ w1.heap.size) (h2 : Fresh w1 x y) : Fresh w v y := by
  rcases h2 with h2 | ⟨k, h2, h3⟩
  · rcases h with h | ⟨k, h, h3⟩
    · exact .inl (h2.trans h)
    · exact .inr ⟨k, h2.trans h, h3⟩
  · exact .inr ⟨k, h2, by omega⟩
theorem up_two {w : World} {o1 o2 : Obj} : Fr w ((w.alloc o1).alloc o2) (fun _ => False) := ((Fr.alloc _ _ (fun _ => False)).trans (Fr.alloc _ _ (fun _ => False))).mono (by simp)
/-- A block of two cells. -/
def Two (w : World) (g : Nat) (p q : Value) : Prop := w.cell? ⟨g, 0, none⟩ = some p ∧ w.cell? ⟨g, 1, none⟩ = some q ∧ ∀ j, w.frozen? ⟨g, j, none⟩ = false
theorem two_of {w : World} {g : Nat} {p q : Value} {t : TypeId} (h : w.heap[g]? = some (.cells #[p, q] t (0, 0))) : Two w g p q :=
  ⟨by rw [cell_of_row _ _ _ _ _ _ h]; rfl, by rw [cell_of_row _ _ _ _ _ _ h]; rfl, fun j => by simp [World.frozen?, h]⟩
theorem Two.fr {w w' : World} {X : Nat → Prop} {g : Nat} {p q : Value} (h : Two w g p q) (hf : Fr w w' X) (hx : ¬ X g) : Two w' g p q := by
  have hb := hf.block g (World.block_lt_of_cell? w _ h.1) hx
  exact ⟨by rw [World.cell?_of_block (w := w) hb]; exact h.1, by rw [World.cell?_of_block (w := w) hb]; exact h.2.1, fun j => by rw [World.frozen?_of_block (w := w) hb]; exact h.2.2 j⟩
theorem Two.set0 {w : World} {g : Nat} {p q : Value} (h : Two w g p q) (v : Value) : Two (w.setCell ⟨g, 0, none⟩ v) g v q :=
  ⟨World.cell?_setCell_same _ _ _ h.1, by rw [World.cell?_setCell_other _ _ _ _ (by simp)]; exact h.2.1, fun j => by rw [World.frozen?_setCell]; exact h.2.2 j⟩
theorem Two.set1 {w : World} {g : Nat} {p q : Value} (h : Two w g p q) (v : Value) : Two (w.setCell ⟨g, 1, none⟩ v) g p v :=
  ⟨by rw [World.cell?_setCell_other _ _ _ _ (by simp)]; exact h.1, World.cell?_setCell_same _ _ _ h.2.1, fun j => by rw [World.frozen?_setCell]; exact h.2.2 j⟩
theorem Two.range {w : World} {g : Nat} {p q : Value} (h : Two w g p q) : w.rangeAt g 0 [p, q] := by
  intro j v hv
  match j, hv with
  | 0, hv => simp only [List.getElem?_cons_zero, Option.some.injEq] at hv; subst hv; exact h.1
  | 1, hv => simp only [List.getElem?_cons_succ, List.getElem?_cons_zero, Option.some.injEq] at hv; subst hv; exact h.2.1
  | j + 2, hv => simp at hv

/-- A period's cells. -/
def cellsP (p : Per) : List Value := [.int .i64 p.lo, .int .i64 p.hi]
def perV (p : Per) : Value := .agg #[.int .i64 p.lo, .int .i64 p.hi]
def encP (L : List Per) : List Value := L.flatMap cellsP
theorem length_encP (L : List Per) : (encP L).length = L.length * 2 := by
  induction L with
  | nil => rfl
  | cons p L ih => simp only [encP, List.flatMap_cons, List.length_append, List.length_cons] at *; rw [ih]; simp [cellsP]; omega
theorem encP_append (a b : List Per) : encP (a ++ b) = encP a ++ encP b := by simp [encP]
theorem encP_oneCell (a : List Per) : ∀ v ∈ encP a, v.oneCell' = true := by
  intro v hv
  simp only [encP, List.mem_flatMap, cellsP, List.mem_cons, List.not_mem_nil, or_false] at hv
  obtain ⟨p, _, rfl | rfl⟩ := hv <;> rfl
theorem encP_get (L : List Per) (j : Nat) (p : Per) (h : L[j]? = some p) (i : Nat) (hi : i < 2) : (encP L)[j * 2 + i]? = (cellsP p)[i]? := by
  induction L generalizing j with
  | nil => simp at h
  | cons x L ih =>
    have e : encP (x :: L) = cellsP x ++ encP L := by simp [encP]
    cases j with
    | zero =>
      simp at h; subst h
      rw [e, List.getElem?_append_left (by simp [cellsP]; omega)]
      simp
    | succ j =>
      simp at h
      rw [e, List.getElem?_append_right (by simp [cellsP]; omega)]
      have : (j + 1) * 2 + i - (cellsP x).length = j * 2 + i := by simp [cellsP]; omega
      rw [this]
      exact ih j h
/-- A slice of periods. -/
def Pers (w : World) (a : Option Addr) (L : List Per) : Prop :=
  L = [] ∨ ∃ g off, a = some ⟨g, off, none⟩ ∧ ∀ (j : Nat) (p : Per), L[j]? = some p → w.cell? ⟨g, off + j * 2, none⟩ = some (.int .i64 p.lo) ∧ w.cell? ⟨g, off + j * 2 + 1, none⟩ = some (.int .i64 p.hi)
theorem Pers.fr {w w' : World} {X : Nat → Prop} {a : Option Addr} {L : List Per} (h : Pers w a L) (hf : Fr w w' X) (hx : ∀ g off, a = some ⟨g, off, none⟩ → g < w.heap.size → ¬ X g) : Pers w' a L := by
  rcases h with h | ⟨g, off, rfl, hc⟩
  · exact .inl h
  · refine .inr ⟨g, off, rfl, fun j p hp => ?_⟩
    obtain ⟨h1, h2⟩ := hc j p hp
    have hb : g < w.heap.size := World.block_lt_of_cell? w _ h1
    have e : ∀ o, w'.cell? ⟨g, o, none⟩ = w.cell? ⟨g, o, none⟩ := fun o => World.cell?_of_block (w := w) (hf.block g hb (hx g off rfl hb))
    exact ⟨by rw [e]; exact h1, by rw [e]; exact h2⟩
theorem Pers.get {w w' : World} {a : Option Addr} {L : List Per} (h : Pers w a L) (hf : Fr w w' (fun _ => False)) (k : Nat) (p : Per) (hp : L[k]? = some p) : ∃ g off, a = some ⟨g, off, none⟩ ∧ w'.cell? ⟨g, off + k * 2, none⟩ = some (.int .i64 p.lo) ∧ w'.cell? ⟨g, off + k * 2 + 1, none⟩ = some (.int .i64 p.hi) := by
  rcases h.fr hf (fun _ _ _ _ h => h) with h | ⟨g, off, rfl, hc⟩
  · subst h; simp at hp
  · exact ⟨g, off, rfl, hc k p hp⟩
/-- A row of periods of the call's own. -/
def OwnP (w : World) (v : Value) (L : List Per) : Prop := w.ownsRow 0 23 2 v L.length (encP L)
theorem OwnP.nil (w : World) : OwnP w (.slice none 0 0) [] := World.ownsRow_nil w 0 23 2
theorem OwnP.fr {w w' : World} {X : Nat → Prop} {v : Value} {L : List Per} (h : OwnP w v L) (hf : Fr w w' X) (hx : ∀ k, v.ownBlock = some k → ¬ X k) : OwnP w' v L := ownsRow_fr h hf hx
theorem OwnP.shape {w : World} {v : Value} {L : List Per} (h : OwnP w v L) : ∃ a c, v = .slice a L.length c ∧ L.length ≤ c ∧ (a = none → c = 0) := by
  rcases h.2 with ⟨h1, h2⟩ | ⟨g, cap, cur, hv, _, _, hle, _⟩
  · exact ⟨none, 0, by rw [h1, h2], by omega, fun _ => rfl⟩
  · exact ⟨_, cap, hv, hle, by simp⟩
theorem OwnP.pers {w : World} {a : Option Addr} {n c : Nat} {L : List Per} (h : OwnP w (.slice a n c) L) : Pers w a L := by
  rcases h.2 with ⟨h1, h2⟩ | ⟨g, cap, cur, hv, _, hg, hle, _, hcs, htk⟩
  · exact .inl (List.eq_nil_of_length_eq_zero h2)
  · simp only [Value.slice.injEq] at hv
    obtain ⟨rfl, rfl, rfl⟩ := hv
    refine .inr ⟨g, 0, rfl, fun j p hp => ?_⟩
    have e : ∀ i, i < 2 → w.cell? ⟨g, 0 + j * 2 + i, none⟩ = (cellsP p)[i]? := by
      intro i hi
      have h3 := encP_get L j p hp i hi
      have hj := (List.getElem?_eq_some_iff.1 hp).1
      rw [cell_of_row _ _ _ _ _ _ hg, Nat.zero_add, ← Array.getElem?_toList, ← h3, ← htk, List.getElem?_take, if_pos (by omega)]
    exact ⟨e 0 (by omega), e 1 (by omega)⟩
theorem full23 : ∃ i, Tryd.prog.info? 23 = some i ∧ i.zero = some (.agg #[.int .i64 0, .int .i64 0]) ∧ i.size = 2 ∧ i.bytes = 16 := by
  have h0 : (Tryd.prog.info? 23).isSome = true := by kernel_rfl
  have h1 : (Tryd.prog.info? 23).bind (·.zero) = some (.agg #[.int .i64 0, .int .i64 0]) := by kernel_rfl
  have h2 : (Tryd.prog.info? 23).map (·.size) = some 2 := by kernel_rfl
  have h3 : (Tryd.prog.info? 23).map (·.bytes) = some 16 := by kernel_rfl
  obtain ⟨i, hi⟩ := Option.isSome_iff_exists.1 h0
  rw [hi] at h1 h2 h3
  exact ⟨i, hi, h1, Option.some.inj h2, Option.some.inj h3⟩
/-- One period goes behind a row of the call's own. -/
theorem wpList_pushP {w : World} {ops : Array Oper} {rest : List Oper} {o : Oper} {act : Act} {Q : Exit → Act → World → Prop} (hgd : o.guard = none) (s x : Operand)
    (ho : o.op = .call { callee := .builtin .append, args := #[s, x], argTypes := #[37, 37] }) (v : Value) (L : List Per) (hs : act.eval s = v) (hown : OwnP w v L)
    (p : Per) (g : Nat) (hx : act.eval x = .slice (some ⟨g, 0, none⟩) 1 1) (hg : w.heap.size = g) (hlen : L.length + 1 ≤ 8796093022208)
    (h : ∀ v' w', OwnP w' v' (L ++ [p]) → Fr w w' (fun k => v.ownBlock = some k) → Fresh w v v' → wpList Tryd.prog ops Q rest (act.put o.dst v') w') : wpList Tryd.prog ops Q (o :: rest) act (w.alloc (.cells #[.int .i64 p.lo, .int .i64 p.hi] 23)) := by
  subst hg
  obtain ⟨i, hi, hz, hs2, hby⟩ := full23
  have A := Fr.alloc w (.cells #[.int .i64 p.lo, .int .i64 p.hi] 23) (fun _ => False)
  obtain ⟨v', w', hr, q1, q2, q3⟩ := run_append_gen (P := Tryd.prog) (w.alloc (.cells #[.int .i64 p.lo, .int .i64 p.hi] 23)) 37 o.type 23 i _ 2 16 Tryd.underlying37 hi hz hs2 hby rfl (by omega) v L.length (encP L) (ownsRow_fr hown A (by simp)) ⟨w.heap.size, 0, none⟩ 1 1 (cellsP p) rfl
    (fun j u hu => by rw [Addr.add_mid, cell_of_row _ _ _ _ _ _ (heap_alloc_new w _)]; simpa [cellsP] using hu) (by intro u hu; simp [cellsP] at hu; rcases hu with rfl | rfl <;> rfl) (by unfold maxLen; omega) (by omega)
  refine wpList_plain hgd fun _ hK => wp_append_to s x 37 ho _ rfl _ rfl _ _ hs hx _ _ hr (hK _ _ (h v' w' ?_ ?_ ?_))
  · unfold OwnP; rw [List.length_append, encP_append]; simpa [encP] using q1
  · exact (A.trans (Fr.grown q2)).mono (by rintro k _ (h1 | h1); exact h1.elim; exact h1)
  · rcases q3 with h1 | ⟨k, h1, h2⟩
    · exact .inl h1
    · exact .inr ⟨k, h1, by simp at h2; omega⟩
end Go.Proofs.YtbdpdobaacbkkaaDoor
