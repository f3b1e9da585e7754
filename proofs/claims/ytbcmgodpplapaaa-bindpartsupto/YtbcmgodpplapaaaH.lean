/- Rows of terms and of kinds, while an operator's operands are bound. -/
import Derived.Test.YtbcmgodpplapaaaG
namespace Go.Proofs.Ytbcmgodpplapaaa
open Go.RowKit
set_option maxRecDepth 100000
set_option linter.unusedVariables false
set_option linter.unusedSimpArgs false

def OwnK (w : World) (v : Value) (L : List Int) : Prop := w.ownsRow 0 3 1 v L.length (L.map (Value.int .i64))
theorem OwnK.nil (w : World) : OwnK w (.slice none 0 0) [] := World.ownsRow_nil w 0 3 1
theorem OwnK.fr {w w' : World} {X : Nat → Prop} {v : Value} {L : List Int} (h : OwnK w v L) (hf : Fr w w' X) (hx : ∀ k, v.ownBlock = some k → ¬ X k) : OwnK w' v L := ownsRow_fr h hf hx
theorem OwnK.nums {w : World} {a : Option Addr} {c n : Nat} {L : List Int} (h : OwnK w (.slice a n c) L) (hn : L.length = n) : Nums w a L := by
  subst hn
  intro k v hk
  exact row_cell h (by simp [hk])
theorem full3 : ∃ i, Try.prog.info? 3 = some i ∧ i.zero = some (.int .i64 0) ∧ i.size = 1 ∧ i.bytes = 8 := by
  have h0 : (Try.prog.info? 3).isSome = true := by kernel_rfl
  have h1 : (Try.prog.info? 3).bind (·.zero) = some (.int .i64 0) := by kernel_rfl
  have h2 : (Try.prog.info? 3).map (·.size) = some 1 := by kernel_rfl
  have h3 : (Try.prog.info? 3).map (·.bytes) = some 8 := by kernel_rfl
  obtain ⟨i, hi⟩ := Option.isSome_iff_exists.1 h0
  rw [hi] at h1 h2 h3
  exact ⟨i, hi, h1, Option.some.inj h2, Option.some.inj h3⟩
theorem run_pushK {w : World} (ty : TypeId) (v : Value) (L : List Int) (hown : OwnK w v L) (x : Int) (g : Nat) (hc : w.cell? ⟨g, 0, none⟩ = some (.int .i64 x)) (hlen : L.length ≤ 1048576) :
    ∃ v' w', (Builtin.append_ #[88, 88] ty #[v, .slice (some ⟨g, 0, none⟩) 1 1]).run Try.prog w = .ok v' w' ∧ OwnK w' v' (L ++ [x]) ∧ Fr w w' (fun k => v.ownBlock = some k) ∧ Fresh w v v' := by
  obtain ⟨i, hi, hz, hs2, hby⟩ := full3
  obtain ⟨v', w', hr, q1, q2, q3⟩ := run_append_gen (P := Try.prog) w 88 ty 3 i _ 1 8 Try.underlying88 hi hz hs2 hby rfl (by omega) v L.length (L.map (Value.int .i64)) hown ⟨g, 0, none⟩ 1 1 ([x].map (Value.int .i64)) (by simp)
    (fun j u hu => by
      rw [Addr.add_mid, Nat.zero_add]
      cases j with
      | zero => simp at hu; subst hu; exact hc
      | succ j => simp at hu) (by intro u hu; simp at hu; subst hu; rfl) (by unfold maxLen; omega) (by omega)
  exact ⟨v', w', hr, by unfold OwnK; rw [List.length_append, List.map_append]; exact q1, Fr.grown q2, q3⟩
abbrev Tr := Tm × Option Addr × Nat
def Tm.op : Tm → ByteArray | .mk o _ _ _ _ => o
def Tm.val : Tm → Vl | .mk _ _ v _ _ => v
def Tm.place : Tm → Int | .mk _ _ _ p _ => p
def Tm.args : Tm → List Tm | .mk _ _ _ _ a => a
def tcells (r : Tr) : List Value := [.string r.1.op, .int .i64 r.1.kind, .int .i64 r.1.val.kind, .int .i64 r.1.val.num, .string r.1.val.text, .int .i64 r.1.place, .slice r.2.1 r.1.args.length r.2.2]
def encTm (L : List Tr) : List Value := (L.map tcells).flatten
theorem length_encTm (L : List Tr) : (encTm L).length = L.length * 7 := by
  induction L with
  | nil => rfl
  | cons x L ih => simp only [encTm, List.map_cons, List.flatten_cons, List.length_append, List.length_cons] at *; simp only [tcells, List.length_cons, List.length_nil]; omega
theorem encTm_append (L M : List Tr) : encTm (L ++ M) = encTm L ++ encTm M := by simp [encTm]
theorem encTm_get (L : List Tr) : ∀ i x, L[i]? = some x → ∀ j, j < 7 → (encTm L)[i * 7 + j]? = (tcells x)[j]? := by
  induction L with
  | nil => intro i x h; simp at h
  | cons y L ih =>
    intro i x h j hj
    cases i with
    | zero =>
      simp only [List.getElem?_cons_zero, Option.some.injEq] at h
      subst h
      show (tcells y ++ encTm L)[0 * 7 + j]? = _
      rw [List.getElem?_append_left (by simp [tcells]; omega)]
      simp
    | succ i =>
      simp only [List.getElem?_cons_succ] at h
      show (tcells y ++ encTm L)[(i + 1) * 7 + j]? = _
      rw [List.getElem?_append_right (by simp [tcells]; omega)]
      rw [show (i + 1) * 7 + j - (tcells y).length = i * 7 + j by simp [tcells]; omega]
      exact ih i x h j hj
def OwnTm (w : World) (v : Value) (L : List Tr) : Prop := w.ownsRow 0 53 7 v L.length (encTm L)
theorem OwnTm.nil (w : World) : OwnTm w (.slice none 0 0) [] := World.ownsRow_nil w 0 53 7
theorem OwnTm.fr {w w' : World} {X : Nat → Prop} {v : Value} {L : List Tr} (h : OwnTm w v L) (hf : Fr w w' X) (hx : ∀ k, v.ownBlock = some k → ¬ X k) : OwnTm w' v L := ownsRow_fr h hf hx
theorem full53 : ∃ i, Try.prog.info? 53 = some i ∧ i.zero = some (.agg #[.string ⟨#[]⟩, .int .i64 0, .int .i64 0, .int .i64 0, .string ⟨#[]⟩, .int .i64 0, .slice none 0 0]) ∧ i.size = 7 ∧ i.bytes = 88 := by
  have h0 : (Try.prog.info? 53).isSome = true := by kernel_rfl
  have h1 : (Try.prog.info? 53).bind (·.zero) = some (.agg #[.string ⟨#[]⟩, .int .i64 0, .int .i64 0, .int .i64 0, .string ⟨#[]⟩, .int .i64 0, .slice none 0 0]) := by kernel_rfl
  have h2 : (Try.prog.info? 53).map (·.size) = some 7 := by kernel_rfl
  have h3 : (Try.prog.info? 53).map (·.bytes) = some 88 := by kernel_rfl
  obtain ⟨i, hi⟩ := Option.isSome_iff_exists.1 h0
  rw [hi] at h1 h2 h3
  exact ⟨i, hi, h1, Option.some.inj h2, Option.some.inj h3⟩
theorem run_pushTm {w : World} (ty : TypeId) (v : Value) (L : List Tr) (hown : OwnTm w v L) (r : Tr) (g : Nat) (hc : w.rangeAt g 0 (tcells r)) (hlen : L.length ≤ 1048576) :
    ∃ v' w', (Builtin.append_ #[51, 51] ty #[v, .slice (some ⟨g, 0, none⟩) 1 1]).run Try.prog w = .ok v' w' ∧ OwnTm w' v' (L ++ [r]) ∧ Fr w w' (fun k => v.ownBlock = some k) ∧ Fresh w v v' := by
  obtain ⟨i, hi, hz, hs2, hby⟩ := full53
  obtain ⟨v', w', hr, q1, q2, q3⟩ := run_append_gen (P := Try.prog) w 51 ty 53 i _ 7 88 Try.underlying51 hi hz hs2 hby rfl (by omega) v L.length (encTm L) hown ⟨g, 0, none⟩ 1 1 (encTm [r]) (by rw [length_encTm]; rfl)
    (fun j u hu => by
      rw [Addr.add_mid]
      exact hc j u (by simpa [encTm] using hu)) (by intro u hu; simp [encTm, tcells] at hu; rcases hu with rfl | rfl | rfl | rfl | rfl | rfl | rfl <;> rfl) (by unfold maxLen; omega) (by omega)
  exact ⟨v', w', hr, by unfold OwnTm; rw [List.length_append, encTm_append]; exact q1, Fr.grown q2, q3⟩
/-- A row of terms is what a term's operands are. -/
theorem OwnTm.tms {w : World} {P : Nat → Prop} {a : Option Addr} {c n : Nat} {R : List Tr} (h : OwnTm w (.slice a n c) R) (hn : R.length = n) (hP : ∀ k, (Value.slice a n c).ownBlock = some k → P k) (hch : ∀ r ∈ R, r.1.args.length ≤ 1048576 ∧ TmsAt P w r.1.args r.2.1 0) : TmsAt P w (R.map Prod.fst) a 0 := by
  subst hn
  cases R with
  | nil => unfold TmsAt; trivial
  | cons r0 R0 =>
    obtain ⟨g, hg, _⟩ := row_cell h (i := 0 * 7 + 0) (by rw [encTm_get _ 0 r0 rfl 0 (by omega)]; rfl)
    subst hg
    refine TmsAt.of (hP g rfl) _ 0 (fun j t ht => ?_)
    rw [List.getElem?_map] at ht
    cases hr : (r0 :: R0)[j]? with
    | none => rw [hr] at ht; cases ht
    | some r =>
      rw [hr] at ht
      simp only [Option.map_some, Option.some.injEq] at ht
      subst ht
      have key : ∀ i, i < 7 → ∀ u, (tcells r)[i]? = some u → w.cell? ⟨g, j * 7 + i, none⟩ = some u := by
        intro i hi u hu
        obtain ⟨g', hg', hc⟩ := row_cell h (i := j * 7 + i) (by rw [encTm_get _ j r hr i hi]; exact hu)
        simp only [Option.some.injEq, Addr.mk.injEq, and_true] at hg'
        subst hg'
        exact hc
      rw [Nat.zero_add]
      refine ⟨_, _, _, _, _, _, _, key 0 (by omega) _ rfl, key 1 (by omega) _ rfl, key 2 (by omega) _ rfl, key 3 (by omega) _ rfl, key 4 (by omega) _ rfl, key 5 (by omega) _ rfl, key 6 (by omega) _ rfl, ?_⟩
      obtain ⟨h1, h2⟩ := hch r (List.mem_of_getElem? hr)
      obtain ⟨⟨op, kind, val, place, args⟩, ra, rc⟩ := r
      unfold TmAt
      exact ⟨ra, rc, rfl, h1, h2⟩

/-- While operands are bound. -/
structure LB (W1 W : World) (v7 v8 : Value) (R : List Tr) (K : List Int) (C : List Tr) (B : List Nat) : Prop where
  o7 : OwnTm W v7 R
  o8 : OwnK W v8 K
  ch : ∀ r ∈ C, r.1.args.length ≤ 1048576 ∧ TmsAt (fun k => W1.heap.size ≤ k ∧ v7.ownBlock ≠ some k ∧ v8.ownBlock ≠ some k) W r.1.args r.2.1 0
  s7 : ∀ k, v7.ownBlock = some k → W1.heap.size ≤ k ∧ v8.ownBlock ≠ some k
  s8 : ∀ k, v8.ownBlock = some k → W1.heap.size ≤ k
  b : ∀ k ∈ B, k < W.heap.size ∧ v7.ownBlock ≠ some k ∧ v8.ownBlock ≠ some k
  f : Fr W1 W (fun _ => False)
section
variable {W1 W W' : World} {v7 v8 : Value} {R : List Tr} {K : List Int} {C : List Tr} {B : List Nat}
theorem LB.start (W1 : World) : LB W1 W1 (.slice none 0 0) (.slice none 0 0) [] [] [] [] :=
  ⟨OwnTm.nil _, OwnK.nil _, (fun r h => by cases h), (fun k h => by cases h), (fun k h => by cases h), (fun k h => by cases h), Fr.refl _ _⟩
theorem LB.fr (h : LB W1 W v7 v8 R K C B) (hf : Fr W W' (fun _ => False)) : LB W1 W' v7 v8 R K C B :=
  ⟨h.o7.fr hf (fun _ _ h => h), h.o8.fr hf (fun _ _ h => h), fun r hr => ⟨(h.ch r hr).1, TmsAt.fr hf (fun _ _ h => h) (fun k hk _ => hk) _ _ _ (h.ch r hr).2⟩, h.s7, h.s8, fun k hk => ⟨Nat.lt_of_lt_of_le (h.b k hk).1 hf.size, (h.b k hk).2⟩, h.f.two hf⟩
theorem LB.drop (h : LB W1 W v7 v8 R K C B) {C' : List Tr} {B' : List Nat} (hC : ∀ r ∈ C', r ∈ C) (hB : ∀ k ∈ B', k ∈ B) : LB W1 W v7 v8 R K C' B' :=
  ⟨h.o7, h.o8, fun r hr => h.ch r (hC r hr), h.s7, h.s8, fun k hk => h.b k (hB k hk), h.f⟩
theorem LB.own_lt (h : LB W1 W v7 v8 R K C B) : (∀ k, v7.ownBlock = some k → k < W.heap.size) ∧ (∀ k, v8.ownBlock = some k → k < W.heap.size) := ⟨fun k hk => ownsRow_lt h.o7 hk, fun k hk => ownsRow_lt h.o8 hk⟩
theorem LB.block (h : LB W1 W v7 v8 R K C B) (o : Obj) : LB W1 (W.alloc o) v7 v8 R K C (W.heap.size :: B) := by
  obtain ⟨l7, l8⟩ := h.own_lt
  have h1 := h.fr (Fr.alloc W o (fun _ => False))
  refine ⟨h1.o7, h1.o8, h1.ch, h1.s7, h1.s8, fun k hk => ?_, h1.f⟩
  rcases List.mem_cons.1 hk with rfl | hk
  · exact ⟨by simp, fun h => by have := l7 _ h; omega, fun h => by have := l8 _ h; omega⟩
  · exact h1.b k hk
theorem LB.child (h : LB W1 W v7 v8 R K C B) {r : Tr} (hr : r.1.args.length ≤ 1048576) (ht : TmsAt (fun k => W1.heap.size ≤ k ∧ v7.ownBlock ≠ some k ∧ v8.ownBlock ≠ some k) W r.1.args r.2.1 0) : LB W1 W v7 v8 R K (C ++ [r]) B :=
  ⟨h.o7, h.o8, fun x hx => by rcases List.mem_append.1 hx with hx | hx; exact h.ch x hx; rw [List.mem_singleton] at hx; subst hx; exact ⟨hr, ht⟩, h.s7, h.s8, h.b, h.f⟩
theorem LB.p7 (h : LB W1 W v7 v8 R K C B) {v : Value} {r : Tr} (ho : OwnTm W' v (R ++ [r])) (hf : Fr W W' (fun k => v7.ownBlock = some k)) (hn : Fresh W v7 v) : LB W1 W' v v8 (R ++ [r]) K C B := by
  obtain ⟨l7, l8⟩ := h.own_lt
  have nv : ∀ k, k < W.heap.size → v7.ownBlock ≠ some k → v.ownBlock ≠ some k := by
    intro k hk h7 hv
    rcases hn with h1 | ⟨q, h1, h2⟩
    · rw [h1] at hv; exact h7 hv
    · rw [h1] at hv; have := Option.some.inj hv; omega
  refine ⟨ho, h.o8.fr hf (fun k h8 h7 => (h.s7 k h7).2 h8), fun x hx => ⟨(h.ch x hx).1, TmsAt.fr hf (fun k hk => hk.2.1) (fun k hk hlt => ⟨hk.1, nv k hlt hk.2.1, hk.2.2⟩) _ _ _ (h.ch x hx).2⟩, fun k hk => ?_, h.s8, fun k hk => ?_, ?_⟩
  · rcases hn with h1 | ⟨q, h1, h2⟩
    · rw [h1] at hk; exact h.s7 k hk
    · rw [h1] at hk
      have hq := Option.some.inj hk
      subst hq
      exact ⟨Nat.le_trans h.f.size h2, fun h8 => by have := l8 _ h8; omega⟩
  · obtain ⟨b1, b2, b3⟩ := h.b k hk
    exact ⟨Nat.lt_of_lt_of_le b1 hf.size, nv k b1 b2, b3⟩
  · exact (h.f.trans hf).mono (fun k hk hx => by rcases hx with hx | hx; exact hx; have := (h.s7 k hx).1; omega)
theorem LB.p8 (h : LB W1 W v7 v8 R K C B) {v : Value} {x : Int} (ho : OwnK W' v (K ++ [x])) (hf : Fr W W' (fun k => v8.ownBlock = some k)) (hn : Fresh W v8 v) : LB W1 W' v7 v R (K ++ [x]) C B := by
  obtain ⟨l7, l8⟩ := h.own_lt
  have nv : ∀ k, k < W.heap.size → v8.ownBlock ≠ some k → v.ownBlock ≠ some k := by
    intro k hk h7 hv
    rcases hn with h1 | ⟨q, h1, h2⟩
    · rw [h1] at hv; exact h7 hv
    · rw [h1] at hv; have := Option.some.inj hv; omega
  refine ⟨h.o7.fr hf (fun k h7 h8 => (h.s7 k h7).2 h8), ho, fun x hx => ⟨(h.ch x hx).1, TmsAt.fr hf (fun k hk => hk.2.2) (fun k hk hlt => ⟨hk.1, hk.2.1, nv k hlt hk.2.2⟩) _ _ _ (h.ch x hx).2⟩, fun k hk => ⟨(h.s7 k hk).1, nv k (l7 k hk) (h.s7 k hk).2⟩, fun k hk => ?_, fun k hk => ?_, ?_⟩
  · rcases hn with h1 | ⟨q, h1, h2⟩
    · rw [h1] at hk; exact h.s8 k hk
    · rw [h1] at hk
      have hq := Option.some.inj hk
      subst hq
      exact Nat.le_trans h.f.size h2
  · obtain ⟨b1, b2, b3⟩ := h.b k hk
    exact ⟨Nat.lt_of_lt_of_le b1 hf.size, b2, nv k b1 b3⟩
  · exact (h.f.trans hf).mono (fun k hk hx => by rcases hx with hx | hx; exact hx; have := h.s8 k hx; omega)
end
end Go.Proofs.Ytbcmgodpplapaaa
