/- Rows in memory; the frame; append. -/
import Derived.Test.YtackfnojafinpaaDoorRows
import Derived.Test.YtackfnojafinpaaDoorA
import Derived.WalkKit
import Derived.WalkSpells
import Derived.WalkLawsBesides
import Derived.Handy
import Derived.Deep.MidRow
import Derived.ArgAppend
import Derived.Laws.OwnMore
namespace Go.Proofs.YtackfnojafinpaaDoor
open Go.RowKit
set_option linter.unusedVariables false


theorem hide {p : Prop} (h : p) : Hid p := h
theorem ownsRow_base {w : World} {base base' : Nat} {e : TypeId} {size : Nat} {v : Value} {n : Nat} {xs : List Value} (h : w.ownsRow base e size v n xs) (hb : base' ≤ base) : w.ownsRow base' e size v n xs := by
  refine ⟨h.1, ?_⟩
  rcases h.2 with h2 | ⟨g, cap, cur, hv, hg, r⟩
  · exact .inl h2
  · exact .inr ⟨g, cap, cur, hv, by omega, r⟩
theorem run_append_gen {P : Program} (w : World) (t ty e : TypeId) (i : TypeInfo) (z : Value) (size bytes : Nat) (ht : P.underlying t = some (.slice e)) (hi : P.info? e = some i) (hz : i.zero = some z)
    (hsize : i.size = size) (hby : i.bytes = bytes) (hzs : z.cells.size = size) (hsz : 0 < size)
    (v : Value) (n : Nat) (xs : List Value) (hown : w.ownsRow 0 e size v n xs)
    (a : Addr) (m c : Nat) (news : List Value) (hl : news.length = m * size) (hnews : ∀ j u, news[j]? = some u → w.cell? (a.add j) = some u) (h1 : ∀ u ∈ news, u.oneCell' = true)
    (h63 : n + m ≤ maxLen) (hbytes : (n + m) * bytes ≤ 140737488355328) :
    ∃ v' w', (Builtin.append_ #[t, t] ty #[v, .slice (some a) m c]).run P w = .ok v' w' ∧ w'.ownsRow 0 e size v' (n + m) (xs ++ news) ∧ w.grownBy w' v.ownBlock ∧
      (v'.ownBlock = v.ownBlock ∨ ∃ k, v'.ownBlock = some k ∧ w.heap.size ≤ k) := by
  rcases hown.2 with ⟨rfl, rfl⟩ | ⟨g, cap, cur, rfl, hg0, hg, hn, hm, hcs, htk⟩
  · have hx : xs = [] := List.eq_nil_of_length_eq_zero (by simpa using hown.1)
    subst hx
    obtain ⟨v', w', hr, r1, r2, _⟩ := run_append_own (P := P) w w.heap.size t ty e i z size bytes ht hi hz hsize hby hzs hsz _ 0 [] (World.ownsRow_nil w _ e size) a m c news hl hnews h1 h63 hbytes (Nat.le_refl _)
    refine ⟨v', w', hr, ownsRow_base r1 (Nat.zero_le _), r2, ?_⟩
    cases hv : v'.ownBlock with
    | none => exact .inl rfl
    | some k => exact .inr ⟨k, rfl, (r1.lt k hv).1⟩
  · by_cases hroom : n + m ≤ cap
    · obtain ⟨v', w', hr, r1, r2, _⟩ := run_append_own (P := P) w 0 t ty e i z size bytes ht hi hz hsize hby hzs hsz _ n xs hown a m c news hl hnews h1 h63 hbytes (Nat.zero_le _)
      refine ⟨v', w', hr, r1, r2, .inl ?_⟩
      subst hsize
      have hfit : n * i.size + news.length ≤ cur.size := by rw [hcs, hl, ← Nat.add_mul]; exact Nat.mul_le_mul_right _ hroom
      have hr2 := run_append_room (P := P) w t ty e i ht hi g n cap cur hg a m c news hl hnews h1 hroom hfit
      rw [hr2] at hr
      obtain ⟨rfl, _⟩ := Result.ok.inj hr
      rfl
    · have hcell : ∀ j u, xs[j]? = some u → w.cell? ((⟨g, 0, none⟩ : Addr).add j) = some u := hown.cells rfl
      obtain ⟨v', w', hr, r1, r2⟩ := run_append_arg_grows (P := P) w t ty e i z size bytes ht hi hz hsize hby hzs hsz ⟨g, 0, none⟩ n cap xs hown.1 hcell a m c news hl hnews (by omega) h63 hbytes
      refine ⟨v', w', hr, ownsRow_base r1 (Nat.zero_le _), ⟨r2.os, r2.tape, r2.output, r2.size, fun k hk _ => r2.block k hk (by simp)⟩, ?_⟩
      cases hv : v'.ownBlock with
      | none =>
        exfalso
        rcases r1.2 with ⟨_, h0⟩ | ⟨g', cap', cur', rfl, _⟩
        · omega
        · simp [Value.ownBlock] at hv
      | some k => exact .inr ⟨k, rfl, (r1.lt k hv).1⟩
theorem wp_append_to {P : Program} {o : Oper} {a : Act} {w : World} {K : Act → World → Prop} {Q : Exit → Act → World → Prop} (s x : Operand) (t : TypeId)
    (ho : o.op = .call { callee := .builtin .append, args := #[s, x], argTypes := #[t, t] }) (d : Option Tmp) (hd : o.dst = d) (ty : TypeId) (hty : o.type = ty) (v1 v2 : Value) (hs : a.eval s = v1) (hx : a.eval x = v2)
    (v' : Value) (w' : World) (hr : (Builtin.append_ #[t, t] ty #[v1, v2]).run P w = .ok v' w') (hK : K (a.put d v') w') : o.wp P a w K Q := by
  subst hd
  subst hty
  unfold Oper.wp execOp
  simp only [ho, resolve, invoke, builtin, Sem.run_bind, Sem.run_pure, Result.andThen_ok, List.map_toArray, List.map_cons, List.map_nil, hs, hx, hr]
  exact hK
/-- But for the blocks that X names all that was there is as it was. -/
structure Fr (w w' : World) (X : Nat → Prop) : Prop where
  os : w'.os = w.os
  tape : w'.tape = w.tape
  output : w'.output = w.output
  size : w.heap.size ≤ w'.heap.size
  block : ∀ k, k < w.heap.size → ¬ X k → w'.heap[k]? = w.heap[k]?
theorem Fr.refl (w : World) (X : Nat → Prop) : Fr w w X := ⟨rfl, rfl, rfl, Nat.le_refl _, fun _ _ _ => rfl⟩
theorem Fr.trans {a b c : World} {X Y : Nat → Prop} (h : Fr a b X) (k : Fr b c Y) : Fr a c (fun i => X i ∨ Y i) :=
  ⟨k.os.trans h.os, k.tape.trans h.tape, k.output.trans h.output, Nat.le_trans h.size k.size, fun i hi hx =>
    (k.block i (Nat.lt_of_lt_of_le hi h.size) (fun hy => hx (.inr hy))).trans (h.block i hi (fun hy => hx (.inl hy)))⟩
theorem Fr.mono {a b : World} {X Y : Nat → Prop} (h : Fr a b X) (hxy : ∀ k, k < a.heap.size → X k → Y k) : Fr a b Y :=
  ⟨h.os, h.tape, h.output, h.size, fun i hi hy => h.block i hi (fun hx => hy (hxy i hi hx))⟩
theorem Fr.drew (w : World) (X : Nat → Prop) : Fr w w.drew X := ⟨rfl, rfl, rfl, Nat.le_refl _, fun _ _ _ => rfl⟩
theorem Fr.alloc (w : World) (o : Obj) (X : Nat → Prop) : Fr w (w.alloc o) X := ⟨rfl, rfl, rfl, by simp, fun k hk _ => Below.heap_alloc w o k hk⟩
theorem Fr.grown {w w' : World} {row : Option Nat} (h : w.grownBy w' row) : Fr w w' (fun k => row = some k) :=
  ⟨h.os, h.tape, h.output, h.size, fun k hk hx => h.block k hk (fun e => hx e.symm)⟩
theorem Fr.setCell (w : World) (a : Addr) (v : Value) : Fr w (w.setCell a v) (fun k => k = a.block) :=
  ⟨rfl, rfl, rfl, by simp [World.setCell], fun k _ hx => Below.heap_setCell w a v k hx⟩
theorem Fr.below {w w' : World} {X : Nat → Prop} {B : Nat} (h : Fr w w' X) (hB : B ≤ w.heap.size) (hX : ∀ k, X k → B ≤ k) : Below B w w' :=
  ⟨h.os, h.tape, h.output, h.size, fun k hk => h.block k (by omega) (fun hx => by have := hX k hx; omega)⟩
theorem ownsRow_fr {w w' : World} {X : Nat → Prop} {base : Nat} {e : TypeId} {size : Nat} {v : Value} {n : Nat} {xs : List Value} (h : w.ownsRow base e size v n xs) (hf : Fr w w' X)
    (hx : ∀ k, v.ownBlock = some k → ¬ X k) : w'.ownsRow base e size v n xs := by
  refine ⟨h.1, ?_⟩
  rcases h.2 with hn | ⟨g, cap, cur, rfl, hb, hgg, rest⟩
  · exact .inl hn
  · refine .inr ⟨g, cap, cur, rfl, hb, ?_, rest⟩
    rw [hf.block g (Array.getElem?_eq_some_iff.1 hgg).1 (hx g rfl)]
    exact hgg
theorem rangeAt_fr {w w' : World} {X : Nat → Prop} {b o : Nat} {cs : List Value} (h : w.rangeAt b o cs) (hf : Fr w w' X) (hx : ¬ X b) : w'.rangeAt b o cs := fun j v hv => by
  have h1 := h j v hv
  have hb : b < w.heap.size := World.block_lt_of_cell? w _ h1
  rw [World.cell?_of_block (w := w) (hf.block b hb hx)]
  exact h1
theorem heap_setCell_here (w : World) (b j : Nat) (v : Value) (c : Array Value) (t : TypeId) (fr : Nat × Nat) (h : w.heap[b]? = some (.cells c t fr)) :
    (w.setCell ⟨b, j, none⟩ v).heap[b]? = some (.cells (c.setIfInBounds j v) t fr) := by
  simp [World.setCell, Array.getElem?_modify, h]
/-- The row is the one that it was, or a new one. -/
def Fresh (w : World) (v v' : Value) : Prop := v'.ownBlock = v.ownBlock ∨ ∃ k, v'.ownBlock = some k ∧ w.heap.size ≤ k
theorem Fresh.le {w : World} {v v' : Value} {B : Nat} (h : Fresh w v v') (hB : B ≤ w.heap.size) (hv : ∀ k, v.ownBlock = some k → B ≤ k) : ∀ k, v'.ownBlock = some k → B ≤ k := by
  intro k hk
  rcases h with h1 | ⟨q, h1, h2⟩
  · exact hv k (h1 ▸ hk)
  · rw [h1] at hk; injection hk; omega
theorem Fresh.trans {w w1 : World} {v x y : Value} (h : Fresh w v x) (hs : w.heap.size ≤ w1.heap.size) (h2 : Fresh w1 x y) : Fresh w v y := by
  rcases h2 with h2 | ⟨k, h2, h3⟩
  · rcases h with h | ⟨k, h, h3⟩
    · exact .inl (h2.trans h)
    · exact .inr ⟨k, h2.trans h, h3⟩
  · exact .inr ⟨k, h2, by omega⟩
theorem up_two {w : World} {o1 o2 : Obj} : Fr w ((w.alloc o1).alloc o2) (fun _ => False) := ((Fr.alloc _ _ (fun _ => False)).trans (Fr.alloc _ _ (fun _ => False))).mono (by simp)
/-- A block of two cells. -/
def Two (w : World) (g : Nat) (p q : Value) : Prop := w.cell? ⟨g, 0, none⟩ = some p ∧ w.cell? ⟨g, 1, none⟩ = some q ∧ ∀ j, w.frozen? ⟨g, j, none⟩ = false
theorem two_of {w : World} {g : Nat} {p q : Value} {t : TypeId} (h : w.heap[g]? = some (.cells #[p, q] t (0, 0))) : Two w g p q :=
  ⟨by rw [cell_of_row _ _ _ _ _ _ h]; rfl, by rw [cell_of_row _ _ _ _ _ _ h]; rfl, fun j => by simp [World.frozen?, h]⟩
theorem Two.fr {w w' : World} {X : Nat → Prop} {g : Nat} {p q : Value} (h : Two w g p q) (hf : Fr w w' X) (hx : ¬ X g) : Two w' g p q := by
  have hb := hf.block g (World.block_lt_of_cell? w _ h.1) hx
  exact ⟨by rw [World.cell?_of_block (w := w) hb]; exact h.1, by rw [World.cell?_of_block (w := w) hb]; exact h.2.1, fun j => by rw [World.frozen?_of_block (w := w) hb]; exact h.2.2 j⟩
theorem Two.set0 {w : World} {g : Nat} {p q : Value} (h : Two w g p q) (v : Value) : Two (w.setCell ⟨g, 0, none⟩ v) g v q :=
  ⟨World.cell?_setCell_same _ _ _ h.1, by rw [World.cell?_setCell_other _ _ _ _ (by simp)]; exact h.2.1, fun j => by rw [World.frozen?_setCell]; exact h.2.2 j⟩
theorem Two.set1 {w : World} {g : Nat} {p q : Value} (h : Two w g p q) (v : Value) : Two (w.setCell ⟨g, 1, none⟩ v) g p v :=
  ⟨by rw [World.cell?_setCell_other _ _ _ _ (by simp)]; exact h.1, World.cell?_setCell_same _ _ _ h.2.1, fun j => by rw [World.frozen?_setCell]; exact h.2.2 j⟩
theorem Two.range {w : World} {g : Nat} {p q : Value} (h : Two w g p q) : w.rangeAt g 0 [p, q] := by
  intro j v hv
  match j, hv with
  | 0, hv => simp only [List.getElem?_cons_zero, Option.some.injEq] at hv; subst hv; exact h.1
  | 1, hv => simp only [List.getElem?_cons_succ, List.getElem?_cons_zero, Option.some.injEq] at hv; subst hv; exact h.2.1
  | j + 2, hv => simp at hv

/-- The bytes of a list, as a string. -/
def strOf (l : List UInt8) : ByteArray := ⟨l.toArray⟩
theorem strOf_toList (l : List UInt8) : (strOf l).data.toList = l := by simp [strOf]
theorem strOf_size (l : List UInt8) : (strOf l).size = l.length := by simp [strOf, ByteArray.size]
theorem strOf_inj {a b : List UInt8} (h : strOf a = strOf b) : a = b := by rw [← strOf_toList a, h, strOf_toList]
theorem strOf_data (s : ByteArray) : strOf s.data.toList = s := rfl
/-- A token's cells. -/
def cellsT (t : Tok) : List Value := [.int .i64 t.kind, .string (strOf t.text), .int .i64 t.num, .int .i64 t.pos]
def tokV (t : Tok) : Value := .agg #[.int .i64 t.kind, .string (strOf t.text), .int .i64 t.num, .int .i64 t.pos]
def encT (L : List Tok) : List Value := L.flatMap cellsT
theorem length_encT (L : List Tok) : (encT L).length = L.length * 4 := by
  induction L with
  | nil => rfl
  | cons p L ih => simp only [encT, List.flatMap_cons, List.length_append, List.length_cons] at *; rw [ih]; simp [cellsT]; omega
theorem encT_append (a b : List Tok) : encT (a ++ b) = encT a ++ encT b := by simp [encT]
theorem encT_oneCell (a : List Tok) : ∀ v ∈ encT a, v.oneCell' = true := by
  intro v hv
  simp only [encT, List.mem_flatMap, cellsT, List.mem_cons, List.not_mem_nil, or_false] at hv
  obtain ⟨p, _, rfl | rfl | rfl | rfl⟩ := hv <;> rfl
theorem encT_get (L : List Tok) (j : Nat) (p : Tok) (h : L[j]? = some p) (i : Nat) (hi : i < 4) : (encT L)[j * 4 + i]? = (cellsT p)[i]? := by
  induction L generalizing j with
  | nil => simp at h
  | cons x L ih =>
    have e : encT (x :: L) = cellsT x ++ encT L := by simp [encT]
    cases j with
    | zero =>
      simp at h; subst h
      rw [e, List.getElem?_append_left (by simp [cellsT]; omega)]
      simp
    | succ j =>
      simp at h
      rw [e, List.getElem?_append_right (by simp [cellsT]; omega)]
      have : (j + 1) * 4 + i - (cellsT x).length = j * 4 + i := by simp [cellsT]; omega
      rw [this]
      exact ih j h
/-- A slice of tokens. -/
def Toks (w : World) (a : Option Addr) (L : List Tok) : Prop :=
  L = [] ∨ ∃ g, a = some ⟨g, 0, none⟩ ∧ ∀ (j : Nat) (p : Tok), L[j]? = some p → ∀ i, i < 4 → w.cell? ⟨g, j * 4 + i, none⟩ = (cellsT p)[i]?
theorem Toks.fr {w w' : World} {X : Nat → Prop} {a : Option Addr} {L : List Tok} (h : Toks w a L) (hf : Fr w w' X) (hx : ∀ g, a = some ⟨g, 0, none⟩ → g < w.heap.size → ¬ X g) : Toks w' a L := by
  rcases h with h | ⟨g, rfl, hc⟩
  · exact .inl h
  · refine .inr ⟨g, rfl, fun j p hp i hi => ?_⟩
    have h1 := hc j p hp i hi
    have hs : (cellsT p)[i]? = some ((cellsT p)[i]'(by simp [cellsT]; omega)) := List.getElem?_eq_getElem _
    rw [hs] at h1 ⊢
    have hb : g < w.heap.size := World.block_lt_of_cell? w _ h1
    rw [World.cell?_of_block (w := w) (hf.block g hb (hx g rfl hb))]
    exact h1
theorem Toks.get {w w' : World} {a : Option Addr} {L : List Tok} (h : Toks w a L) (hf : Fr w w' (fun _ => False)) (k : Nat) (p : Tok) (hp : L[k]? = some p) :
    ∃ g, a = some ⟨g, 0, none⟩ ∧ w'.cell? ⟨g, k * 4, none⟩ = some (.int .i64 p.kind) ∧ w'.cell? ⟨g, k * 4 + 1, none⟩ = some (.string (strOf p.text)) ∧ w'.cell? ⟨g, k * 4 + 2, none⟩ = some (.int .i64 p.num) ∧ w'.cell? ⟨g, k * 4 + 3, none⟩ = some (.int .i64 p.pos) := by
  rcases h.fr hf (fun _ _ _ h => h) with h | ⟨g, rfl, hc⟩
  · subst h; simp at hp
  · exact ⟨g, rfl, hc k p hp 0 (by omega), hc k p hp 1 (by omega), hc k p hp 2 (by omega), hc k p hp 3 (by omega)⟩
/-- A row of tokens of the call's own. -/
def OwnT (w : World) (v : Value) (L : List Tok) : Prop := w.ownsRow 0 36 4 v L.length (encT L)
theorem OwnT.nil (w : World) : OwnT w (.slice none 0 0) [] := World.ownsRow_nil w 0 36 4
theorem OwnT.fr {w w' : World} {X : Nat → Prop} {v : Value} {L : List Tok} (h : OwnT w v L) (hf : Fr w w' X) (hx : ∀ k, v.ownBlock = some k → ¬ X k) : OwnT w' v L := ownsRow_fr h hf hx
theorem OwnT.shape {w : World} {v : Value} {L : List Tok} (h : OwnT w v L) : ∃ a c, v = .slice a L.length c ∧ L.length ≤ c ∧ (a = none → c = 0) := by
  rcases h.2 with ⟨h1, h2⟩ | ⟨g, cap, cur, hv, _, _, hle, _⟩
  · exact ⟨none, 0, by rw [h1, h2], by omega, fun _ => rfl⟩
  · exact ⟨_, cap, hv, hle, by simp⟩
theorem OwnT.toks {w : World} {a : Option Addr} {n c : Nat} {L : List Tok} (h : OwnT w (.slice a n c) L) : Toks w a L := by
  rcases h.2 with ⟨h1, h2⟩ | ⟨g, cap, cur, hv, _, hg, hle, _, hcs, htk⟩
  · exact .inl (List.eq_nil_of_length_eq_zero h2)
  · simp only [Value.slice.injEq] at hv
    obtain ⟨rfl, rfl, rfl⟩ := hv
    refine .inr ⟨g, rfl, fun j p hp i hi => ?_⟩
    have h3 := encT_get L j p hp i hi
    have hj := (List.getElem?_eq_some_iff.1 hp).1
    rw [cell_of_row _ _ _ _ _ _ hg, ← Array.getElem?_toList, ← h3, ← htk, List.getElem?_take, if_pos (by omega)]
theorem full36 : ∃ i, Tryd.prog.info? 36 = some i ∧ i.zero = some (.agg #[.int .i64 0, .string ⟨#[]⟩, .int .i64 0, .int .i64 0]) ∧ i.size = 4 ∧ i.bytes = 40 := by
  have h0 : (Tryd.prog.info? 36).isSome = true := by kernel_rfl
  have h1 : (Tryd.prog.info? 36).bind (·.zero) = some (.agg #[.int .i64 0, .string ⟨#[]⟩, .int .i64 0, .int .i64 0]) := by kernel_rfl
  have h2 : (Tryd.prog.info? 36).map (·.size) = some 4 := by kernel_rfl
  have h3 : (Tryd.prog.info? 36).map (·.bytes) = some 40 := by kernel_rfl
  obtain ⟨i, hi⟩ := Option.isSome_iff_exists.1 h0
  rw [hi] at h1 h2 h3
  exact ⟨i, hi, h1, Option.some.inj h2, Option.some.inj h3⟩
/-- One token goes behind a row of the call's own. -/
theorem wpList_pushT {w : World} {ops : Array Oper} {rest : List Oper} {o : Oper} {act : Act} {Q : Exit → Act → World → Prop} (hgd : o.guard = none) (s x : Operand)
    (ho : o.op = .call { callee := .builtin .append, args := #[s, x], argTypes := #[23, 23] }) (v : Value) (L : List Tok) (hs : act.eval s = v) (hown : OwnT w v L)
    (p : Tok) (g : Nat) (hx : act.eval x = .slice (some ⟨g, 0, none⟩) 1 1) (hg : w.heap.size = g) (hlen : L.length + 1 ≤ 1099511627776)
    (h : ∀ v' w', OwnT w' v' (L ++ [p]) → Fr w w' (fun k => v.ownBlock = some k) → Fresh w v v' → wpList Tryd.prog ops Q rest (act.put o.dst v') w') : wpList Tryd.prog ops Q (o :: rest) act (w.alloc (.cells #[.int .i64 p.kind, .string (strOf p.text), .int .i64 p.num, .int .i64 p.pos] 36)) := by
  subst hg
  obtain ⟨i, hi, hz, hs2, hby⟩ := full36
  have A := Fr.alloc w (.cells #[.int .i64 p.kind, .string (strOf p.text), .int .i64 p.num, .int .i64 p.pos] 36) (fun _ => False)
  obtain ⟨v', w', hr, q1, q2, q3⟩ := run_append_gen (P := Tryd.prog) (w.alloc (.cells #[.int .i64 p.kind, .string (strOf p.text), .int .i64 p.num, .int .i64 p.pos] 36)) 23 o.type 36 i _ 4 40 Tryd.underlying23 hi hz hs2 hby rfl (by omega) v L.length (encT L) (ownsRow_fr hown A (by simp)) ⟨w.heap.size, 0, none⟩ 1 1 (cellsT p) rfl
    (fun j u hu => by rw [Addr.add_mid, cell_of_row _ _ _ _ _ _ (heap_alloc_new w _)]; simpa [cellsT] using hu) (by intro u hu; simp [cellsT] at hu; rcases hu with rfl | rfl | rfl | rfl <;> rfl) (by unfold maxLen; omega) (by omega)
  refine wpList_plain hgd fun _ hK => wp_append_to s x 23 ho _ rfl _ rfl _ _ hs hx _ _ hr (hK _ _ (h v' w' ?_ ?_ ?_))
  · unfold OwnT; rw [List.length_append, encT_append]; simpa [encT] using q1
  · exact (A.trans (Fr.grown q2)).mono (by rintro k _ (h1 | h1); exact h1.elim; exact h1)
  · rcases q3 with h1 | ⟨k, h1, h2⟩
    · exact .inl h1
    · exact .inr ⟨k, h1, by simp at h2; omega⟩
theorem Fr.of_below {w w' : World} (h : Below w.heap.size w w') : Fr w w' (fun _ => False) := ⟨h.os, h.tape, h.output, h.size, fun k hk _ => h.block k hk⟩
theorem Fr.to_below {w w' : World} (h : Fr w w' (fun _ => False)) : Below w.heap.size w w' := h.below (Nat.le_refl _) (fun _ h => h.elim)
end Go.Proofs.YtackfnojafinpaaDoor
