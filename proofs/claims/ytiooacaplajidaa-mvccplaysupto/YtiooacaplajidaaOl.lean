/- What is kept from step to step. -/
import Derived.Test.YtiooacaplajidaaOk
namespace Go.Proofs.Ytiooacaplajidaa
open Go.RowKit Go.Maps
set_option maxRecDepth 100000
set_option linter.unusedVariables false
set_option linter.unusedSimpArgs false

structure PB (j q N D : Nat) (s : St) (m : Dm) : Prop where
  pi : PI s m
  n : N ≤ j * 2097152
  d : D ≤ j
  kn : ∀ t y, s.act t = some y → y.kn ≤ q
  a : m.A.length ≤ j
  h : m.H.length ≤ j
  k : ∀ x, (x ∈ m.A ∨ x ∈ m.H) → x.K.length ≤ q
  b : s.begun ≤ 4611686018427387904 + j
section
variable {j q N D : Nat} {s s' : St} {m : Dm}
theorem PB.same (h : PB j q N D s m) (n : Nat) : PB (j + 1) (q + n) N D s m :=
  ⟨h.pi, Nat.le_trans h.n (Nat.mul_le_mul_right _ (Nat.le_succ j)), by have := h.d; omega, fun t y hy => by have := h.kn t y hy; omega, by have := h.a; omega, by have := h.h; omega, fun x hx => by have := h.k x hx; omega, by have := h.b; omega⟩
theorem PB.tick (h : PB j q N D s m) (n : Nat) (x : Int) : PB (j + 1) (q + n) N D { s with now := x } { m with now := x } :=
  ⟨h.pi.tick x, (h.same n).n, (h.same n).d, (h.same n).kn, (h.same n).a, (h.same n).h, (h.same n).k, (h.same n).b⟩
theorem PB.begin (h : PB j q N D s m) (hi : Inv s) (n : Nat) (kb pb : Nat) (a : Option Addr) (c : Nat) : PB (j + 1) (q + n) (N + 1) D (begS s (s.begun + 1) kb pb) { m with begun := m.begun + 1, aa := a, ac := c, A := m.A ++ [newR m] } := by
  refine ⟨h.pi.begin hi kb pb a c, by rw [Nat.succ_mul]; exact Nat.add_le_add h.n (by decide), (h.same n).d, fun t y hy => ?_, ?_, (h.same n).h, fun x hx => ?_, ?_⟩
  · have hy : (if t = s.begun + 1 then some ⟨s.last, pb, kb, fun _ => none, 0⟩ else s.act t) = some y := hy
    split at hy
    · cases hy; exact Nat.zero_le _
    · exact (h.same n).kn t y hy
  · show (m.A ++ [newR m]).length ≤ j + 1
    rw [List.length_append]
    have := h.a
    simp
    omega
  · rcases hx with hx | hx
    · rcases List.mem_append.1 hx with hx | hx
      · exact (h.same n).k x (.inl hx)
      · have : x = newR m := by simpa using hx
        subst this
        exact Nat.zero_le _
    · exact (h.same n).k x (.inr hx)
  · show s.begun + 1 ≤ _
    have := h.b
    omega
theorem PB.write {t : Int} {i : Nat} {x : Rw} {y : Tx} (h : PB j q N D s m) (hf : First m t i x) (hy : s.act t = some y) (hs : y.snap = x.st) (hk : ∀ k : ByteArray, k.size ≤ maxLen → (y.ks k = some () ↔ k ∈ x.K)) (K2 : List ByteArray) (hz2 : ∀ k ∈ K2, k.size ≤ maxLen) (n : Nat) (hn : K2.length = n) (a : Option Addr) (c : Nat) (k1 : Option Addr) (k2 k3 : Nat) : PB (j + 1) (q + n) N D (setT s t (some { y with ks := addK y.ks K2, kn := y.kn + n })) { m with aa := a, ac := c, A := m.A.set i ⟨x.id, x.st, k1, k2, k3, x.K ++ K2⟩ } := by
  refine ⟨h.pi.write hf hy hs hk K2 hz2 _ a c k1 k2 k3, (h.same n).n, (h.same n).d, fun u z hz => ?_, ?_, (h.same n).h, fun z hz => ?_, (h.same n).b⟩
  · have hz : (if u = t then some { y with ks := addK y.ks K2, kn := y.kn + n } else s.act u) = some z := hz
    split at hz
    · cases hz
      have := h.kn t y hy
      show y.kn + n ≤ q + n
      omega
    · exact (h.same n).kn u z hz
  · show (m.A.set i _).length ≤ j + 1
    rw [List.length_set]
    exact (h.same n).a
  · rcases hz with hz | hz
    · rcases List.mem_or_eq_of_mem_set hz with hz | rfl
      · exact (h.same n).k z (.inl hz)
      · show (x.K ++ K2).length ≤ q + n
        rw [List.length_append, hn]
        have := h.k x (.inl (List.mem_of_getElem? hf.1))
        omega
    · exact (h.same n).k z (.inr hz)
theorem erased_mem {m : Dm} {i : Nat} {y : Rw} (h : y ∈ erased m i) : y ∈ m.A := by
  rcases List.mem_append.1 h with h | h
  · exact List.mem_of_mem_take h
  · exact List.mem_of_mem_drop h
theorem erased_len (m : Dm) (i : Nat) : (erased m i).length ≤ m.A.length := by
  unfold erased
  rw [List.length_append, List.length_take, List.length_drop]
  omega
theorem PB.ended {t : Int} {i : Nat} {x : Rw} (h : PB j q N D s m) (hf : First m t i x) (hE : Ended s t s') (n : Nat) (a : Option Addr) (c : Nat) : PB (j + 1) (q + n) N D s' { m with aa := a, ac := c, A := erased m i } := by
  refine ⟨h.pi.ended hf hE a c, (h.same n).n, (h.same n).d, fun u y hy => ?_, ?_, (h.same n).h, fun z hz => ?_, by rw [hE.begun]; exact (h.same n).b⟩
  · rw [hE.act] at hy
    exact (h.same n).kn u y (act_set hy)
  · exact Nat.le_trans (erased_len m i) (h.same n).a
  · rcases hz with hz | hz
    · exact (h.same n).k z (.inl (erased_mem hz))
    · exact (h.same n).k z (.inr hz)
theorem PB.more {N' D' : Nat} (h : PB (j + 1) q N D s m) (hN : N' ≤ (j + 1) * 2097152) (hD : D' ≤ j + 1) : PB (j + 1) q N' D' s m := ⟨h.pi, hN, hD, h.kn, h.a, h.h, h.k, h.b⟩
theorem PB.keep {t v : Int} {i : Nat} {x : Rw} {y : Tx} {dv : Value} (h : PB j q N D s m) (hi : Inv s) (hf : First m t i x) (hy : s.act t = some y) (hk : ∀ k : ByteArray, k.size ≤ maxLen → (y.ks k = some () ↔ k ∈ x.K)) (hv : s.last < v) (hE : Ended (keepS (lastS s v) t y v dv) t s') (n : Nat) (a : Option Addr) (c : Nat) (ha : Option Addr) (hc : Nat) : PB (j + 1) (q + n) N D s' { m with last := v, aa := a, ac := c, A := erased m i, ha := ha, hc := hc, H := m.H ++ [⟨t, v, x.ka, x.kn, x.kc, x.K⟩] } := by
  refine ⟨h.pi.keep hi hf hy hk hv hE a c ha hc, (h.same n).n, (h.same n).d, fun u z hz => ?_, ?_, ?_, fun z hz => ?_, by rw [hE.begun]; exact (h.same n).b⟩
  · rw [hE.act] at hz
    exact (h.same n).kn u z (act_set hz)
  · exact Nat.le_trans (erased_len m i) (h.same n).a
  · show (m.H ++ [_]).length ≤ j + 1
    rw [List.length_append]
    have := h.h
    simp
    omega
  · rcases hz with hz | hz
    · exact (h.same n).k z (.inl (erased_mem hz))
    · rcases List.mem_append.1 hz with hz | hz
      · exact (h.same n).k z (.inr hz)
      · have : z = ⟨t, v, x.ka, x.kn, x.kc, x.K⟩ := by simpa using hz
        subst this
        exact (h.same n).k x (.inl (List.mem_of_getElem? hf.1))
/-- Commit, on both sides. -/
theorem PB.commit {w0 W W' : World} {bs mb : Nat} {F : Nat → Option Obj} {E : Nat → Prop} {t a b : Int} {m' : Dm} {e : Ending} (h : PB j q N D s m) (hi : Inv s) (n : Nat) (hq : q ≤ 1048576) (hch : ChkD m t a b)
    (hc : (b ≠ 0 ∧ b ≠ 120 ∧ m' = m) ∨ (∃ (i : Nat) (x : Rw) (aa : Option Addr) (ac : Nat), First m t i x ∧ ((((b = 0 ∧ x.K = []) ∨ b = 120) ∧ m' = { m with aa := aa, ac := ac, A := erased m i }) ∨ (b = 0 ∧ x.K ≠ [] ∧ ∃ (ha : Option Addr) (hc : Nat), m' = { m with last := a, aa := aa, ac := ac, A := erased m i, ha := ha, hc := hc, H := m.H ++ [⟨t, a, x.ka, x.kn, x.kc, x.K⟩] }))))
    (hm : CommitM w0 bs mb F E N D s m' t W e W') : e = .returned (.tuple #[.int .i64 a, .int .i64 b]) ∧ Fr W W' (fun k => ¬ E k) ∧ ∃ N' D' s', M3 w0 bs mb F E N' D' s' m' W' ∧ PB (j + 1) (q + n) N' D' s' m' := by
  have hck := h.pi.chk hi hch
  obtain ⟨q1, q2, q3⟩ := hm
  rw [hck] at q1 q3
  refine ⟨q1, q2, ?_⟩
  rcases q3 with ⟨r1, r2, r3⟩ | ⟨y, s1, s', r1, r2, r3, r4⟩
  · rcases hc with ⟨_, _, rfl⟩ | ⟨i, x, aa, ac, _, ⟨hb | hb, _⟩ | ⟨hb, _⟩⟩
    · exact ⟨N, D, s, r3, h.same n⟩
    · exact absurd hb.1 r1
    · exact absurd hb r2
    · exact absurd hb r1
  · have hb : b = 0 ∨ b = 120 := by
      rcases r4 with ⟨_, r4 | ⟨_, r4⟩⟩ | ⟨_, _, r4, _⟩
      · right; injection r4
      · left; injection r4
      · left; injection r4
    have hkn := h.kn t y r1
    have hN : N + y.kn ≤ (j + 1) * 2097152 := by rw [Nat.succ_mul]; exact Nat.add_le_add h.n (Nat.le_trans hkn (Nat.le_trans hq (by decide)))
    have hD : D + 1 ≤ j + 1 := by have := h.d; omega
    rcases hc with ⟨c1, c2, _⟩ | ⟨i, x, aa, ac, hf, hc⟩
    · rcases hb with hb | hb
      · exact absurd hb c1
      · exact absurd hb c2
    obtain ⟨y', p1, p2, p3⟩ := h.pi.found hf
    rw [r1] at p1
    cases p1
    have hem := h.pi.empty hf p3
    rcases hc with ⟨hb2, rfl⟩ | ⟨hb2, hK, ha, hc', rfl⟩
    · rcases r4 with ⟨rfl, _⟩ | ⟨r5, r6, r7, _⟩
      · exact ⟨_, _, s', r2, (h.ended hf r3 n aa ac).more hN hD⟩
      · have hb0 : b = 0 := by injection r7
        rcases hb2 with ⟨_, hK⟩ | hb2
        · exact absurd (hem.2 hK) r5
        · omega
    · rcases r4 with ⟨rfl, r4 | ⟨r5, r4⟩⟩ | ⟨r5, r6, r7, r8, dv, rfl⟩
      · have : b = 120 := by injection r4
        omega
      · exact absurd (hem.1 r5) hK
      · have ha0 : a = nextP s := by injection r7
        subst ha0
        exact ⟨_, _, s', r2, (h.keep hi hf r1 p3 (next_gt s) r3 n aa ac ha hc').more hN hD⟩
end
/-- What a step leaves. -/
def StepP (w0 : World) (bs mb : Nat) (F : Nat → Option Obj) (E0 : Nat → Prop) (j q : Nat) (e : Ending) (W' : World) : Prop := ∃ (m' : Dm) (s' : St) (N' D' : Nat), e = .returned (.tuple #[m'.agg, .bool true]) ∧ M3 w0 bs mb F E0 N' D' s' m' W' ∧ PB j q N' D' s' m'
def BoxP (w : World) (g : Nat) (o : OpR) : Prop := w.heap[g]? = some (.cells #[.int .i64 o.kind, .int .i64 o.txn, .slice o.ka o.kn o.kc, .int .i64 o.n] 33 (0, 0))
theorem BoxP.fr {w w' : World} {X : Nat → Prop} {g : Nat} {o : OpR} (h : BoxP w g o) (hf : Fr w w' X) (hx : ¬ X g) : BoxP w' g o := by
  unfold BoxP at *
  rw [hf.block g (Array.getElem?_eq_some_iff.1 h).1 hx]
  exact h
theorem BoxP.cells {w : World} {g : Nat} {o : OpR} (h : BoxP w g o) : w.cell? ⟨g, 0, none⟩ = some (.int .i64 o.kind) ∧ w.cell? ⟨g, 1, none⟩ = some (.int .i64 o.txn) ∧ w.cell? ⟨g, 2, none⟩ = some (.slice o.ka o.kn o.kc) ∧ w.cell? ⟨g, 3, none⟩ = some (.int .i64 o.n) :=
  ⟨(cell_of_row _ _ _ _ _ _ h).trans rfl, (cell_of_row _ _ _ _ _ _ h).trans rfl, (cell_of_row _ _ _ _ _ _ h).trans rfl, (cell_of_row _ _ _ _ _ _ h).trans rfl⟩
/-- The three boxes of a step. -/
structure Thr (W W2 : World) (m : Dm) (o : OpR) : Prop where
  b : BoxM W2 W.heap.size m
  p : BoxP W2 (W.heap.size + 1) o
  z : BoxM W2 (W.heap.size + 2) zeroM
  f : Fr W W2 (fun _ => False)
  l : W2.heap.size = W.heap.size + 3
theorem three_boxes (W : World) (m : Dm) (o : OpR) : Thr W (((W.alloc (.cells #[.int .i64 m.now, .int .i64 m.last, .int .i64 m.begun, .slice m.aa m.A.length m.ac, .slice m.ha m.H.length m.hc] 29)).alloc (.cells #[.int .i64 o.kind, .int .i64 o.txn, .slice o.ka o.kn o.kc, .int .i64 o.n] 33)).alloc (.cells #[.int .i64 0, .int .i64 0, .int .i64 0, .slice none 0 0, .slice none 0 0] 29)) m o := by
  obtain ⟨W1, hW1⟩ : ∃ W1, W1 = W.alloc (.cells #[.int .i64 m.now, .int .i64 m.last, .int .i64 m.begun, .slice m.aa m.A.length m.ac, .slice m.ha m.H.length m.hc] 29) := ⟨_, rfl⟩
  have b1 : BoxM W1 W.heap.size m := by rw [hW1]; exact heap_alloc_new W _
  have s1 : W1.heap.size = W.heap.size + 1 := by rw [hW1]; simp
  have f1 : Fr W W1 (fun _ => False) := by rw [hW1]; exact Fr.alloc W _ _
  rw [← hW1]
  obtain ⟨W2, hW2⟩ : ∃ W2, W2 = W1.alloc (.cells #[.int .i64 o.kind, .int .i64 o.txn, .slice o.ka o.kn o.kc, .int .i64 o.n] 33) := ⟨_, rfl⟩
  have b2 : BoxP W2 (W.heap.size + 1) o := by rw [hW2, ← s1]; exact heap_alloc_new W1 _
  have s2 : W2.heap.size = W.heap.size + 2 := by rw [hW2]; simp; omega
  have f2 : Fr W1 W2 (fun _ => False) := by rw [hW2]; exact Fr.alloc W1 _ _
  rw [← hW2]
  have f3 := Fr.alloc W2 (.cells #[.int .i64 0, .int .i64 0, .int .i64 0, .slice none 0 0, .slice none 0 0] 29) (fun _ => False)
  refine ⟨(b1.fr f2 (fun h => h)).fr f3 (fun h => h), b2.fr f3 (fun h => h), ?_, (f1.two f2).two f3, by simp; omega⟩
  rw [← s2]
  exact zeroBox W2
end Go.Proofs.Ytiooacaplajidaa
