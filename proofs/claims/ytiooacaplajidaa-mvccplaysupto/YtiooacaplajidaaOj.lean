/- The manager and the document's beside it, in memory. -/
import Derived.Test.YtiooacaplajidaaOi
import Derived.Test.YtiooacaplajidaaOn
namespace Go.Proofs.Ytiooacaplajidaa
open Go.RowKit Go.Maps
set_option maxRecDepth 100000
set_option linter.unusedVariables false
set_option linter.unusedSimpArgs false

def M2 (X : Nat → Prop) (w0 : World) (bs mb : Nat) (F : Nat → Option Obj) (E : Nat → Prop) (N D : Nat) (s : St) (m : Dm) (W : World) : Prop :=
  MGx X W bs mb N D s ∧ (∀ k, X k → bs ≤ k ∧ ¬ E k ∧ k < W.heap.size) ∧ DM (fun k => ¬ X k ∧ ¬ E k) W m ∧ Fr w0 W (fun k => bs ≤ k) ∧ (∀ k, E k → bs ≤ k ∧ k < W.heap.size) ∧ bs ≤ W.heap.size ∧ ∀ k o, F k = some o → E k ∧ W.heap[k]? = some o
/-- The two beside one another. -/
def M3 (w0 : World) (bs mb : Nat) (F : Nat → Option Obj) (E : Nat → Prop) (N D : Nat) (s : St) (m : Dm) (W : World) : Prop := ∃ X, M2 X w0 bs mb F E N D s m W
section
variable {w0 W W' : World} {bs mb N D : Nat} {F : Nat → Option Obj} {E : Nat → Prop} {s : St} {m m' : Dm} {X : Nat → Prop}
theorem Fr.over {a b c : World} {bs : Nat} (h : Fr a b (fun k => bs ≤ k)) (k : Fr b c (fun _ => False)) : Fr a c (fun k => bs ≤ k) := (h.trans k).mono (fun _ _ h => h.elim (fun h => h) (fun h => h.elim))
theorem M2.hQ (h : M2 X w0 bs mb F E N D s m W) : ∀ k, W.heap.size ≤ k → ¬ X k ∧ ¬ E k := fun k hk => ⟨fun hx => by have := (h.2.1 k hx).2.2; omega, fun he => by have := (h.2.2.2.2.1 k he).2; omega⟩
theorem M2.fr (h : M2 X w0 bs mb F E N D s m W) (f : Fr W W' (fun _ => False)) : M2 X w0 bs mb F E N D s m W' :=
  ⟨h.1.fr f (fun _ _ _ h => h), fun k hk => ⟨(h.2.1 k hk).1, (h.2.1 k hk).2.1, by have := (h.2.1 k hk).2.2; have := f.size; omega⟩, h.2.2.1.frF f, h.2.2.2.1.over f, fun k hk => ⟨(h.2.2.2.2.1 k hk).1, by have := (h.2.2.2.2.1 k hk).2; have := f.size; omega⟩, Nat.le_trans h.2.2.2.2.2.1 f.size, fun k o ho => ⟨(h.2.2.2.2.2.2 k o ho).1, by rw [f.block k (h.2.2.2.2.1 k (h.2.2.2.2.2.2 k o ho).1).2 (fun h => h)]; exact (h.2.2.2.2.2.2 k o ho).2⟩⟩
theorem M3.fr (h : M3 w0 bs mb F E N D s m W) (f : Fr W W' (fun _ => False)) : M3 w0 bs mb F E N D s m W' := by obtain ⟨X, h⟩ := h; exact ⟨X, h.fr f⟩
theorem M2.doc (h : M2 X w0 bs mb F E N D s m W) (hd : DM (fun k => ¬ X k ∧ ¬ E k) W' m') (f : Fr W W' (fun _ => False)) : M3 w0 bs mb F E N D s m' W' := by
  obtain ⟨h1, h2, h3, h4, h5⟩ := h.fr f
  exact ⟨X, h1, h2, hd, h4, h5⟩
theorem M2.mgr {X' : Nat → Prop} {N' D' : Nat} {s' : St} (h : M2 X w0 bs mb F E N D s m W) (hm : MGx X' W' bs mb N' D' s') (hx : ∀ k, X' k → X k ∨ W.heap.size ≤ k) (f : Fr W W' X) : M3 w0 bs mb F E N' D' s' m W' := by
  have hE := h.2.2.2.2.1
  refine ⟨fun k => X' k ∧ bs ≤ k ∧ k < W'.heap.size, hm.imp (fun k h1 h2 h3 => ⟨h3, h1, h2⟩), fun k hk => ⟨hk.2.1, fun he => ?_, hk.2.2⟩, ?_, ?_, fun k hk => ⟨(hE k hk).1, by have := (hE k hk).2; have := f.size; omega⟩, Nat.le_trans h.2.2.2.2.2.1 f.size, fun k o ho => ⟨(h.2.2.2.2.2.2 k o ho).1, by rw [f.block k (h.2.2.2.2.1 k (h.2.2.2.2.2.2 k o ho).1).2 (fun hk => (h.2.1 k hk).2.1 (h.2.2.2.2.2.2 k o ho).1)]; exact (h.2.2.2.2.2.2 k o ho).2⟩⟩
  · rcases hx k hk.1 with q | q
    · exact (h.2.1 k q).2.1 he
    · have := (hE k he).2; omega
  · have h1 : DM (fun k => (¬ X k ∧ ¬ E k) ∧ k < W.heap.size) W m := h.2.2.1.imp (fun k h1 h2 => ⟨h2, h1⟩)
    refine (h1.fr f (fun k hk => hk.1.1)).imp (fun k _ hk => ⟨fun hx' => ?_, hk.1.2⟩)
    rcases hx k hx'.1 with q | q
    · exact hk.1.1 q
    · have := hk.2; omega
  · exact (h.2.2.2.1.trans f).mono (fun k _ hh => by rcases hh with hh | hh; exact hh; exact (h.2.1 k hh).1)
/-- Boxes are made: M3 goes on beside them. -/
theorem M3.boxes {W2 : World} (h : M3 w0 bs mb F E N D s m W) (f : Fr W W2 (fun _ => False)) : M3 w0 bs mb F (fun k => E k ∨ (W.heap.size ≤ k ∧ k < W2.heap.size)) N D s m W2 := by
  obtain ⟨X, h⟩ := h
  have hd : DM (fun k => ¬ X k ∧ ¬ (E k ∨ (W.heap.size ≤ k ∧ k < W2.heap.size))) W m := h.2.2.1.imp (fun k h1 h2 => ⟨h2.1, fun q => by rcases q with q | q; exact h2.2 q; (have := q.1; omega)⟩)
  obtain ⟨h1, h2, h3, h4, h5, h6, h7⟩ := h.fr f
  refine ⟨X, h1, fun k hk => ⟨(h2 k hk).1, fun q => ?_, (h2 k hk).2.2⟩, hd.frF f, h4, fun k hk => ?_, h6, fun k o ho => ⟨.inl (h7 k o ho).1, (h7 k o ho).2⟩⟩
  · rcases q with q | q
    · exact (h2 k hk).2.1 q
    · have := (h.2.1 k hk).2.2; omega
  · rcases hk with q | q
    · exact h5 k q
    · exact ⟨by have := h.2.2.2.2.2.1; omega, q.2⟩
/-- A box is written. -/
theorem M3.re {F' : Nat → Option Obj} (h : M3 w0 bs mb F E N D s m W) (f : Fr W W' E) (hF : ∀ k o, F' k = some o → E k ∧ W'.heap[k]? = some o) : M3 w0 bs mb F' E N D s m W' := by
  obtain ⟨X, h1, h2, h3, h4, h5, h6, h7⟩ := h
  exact ⟨X, h1.fr f (fun k _ hk => (h2 k hk).2.1), fun k hk => ⟨(h2 k hk).1, (h2 k hk).2.1, by have := (h2 k hk).2.2; have := f.size; omega⟩, h3.fr f (fun k hk => hk.2), (h4.trans f).mono (fun k _ hh => by rcases hh with hh | hh; exact hh; exact (h5 k hh).1), fun k hk => ⟨(h5 k hk).1, by have := (h5 k hk).2; have := f.size; omega⟩, Nat.le_trans h6 f.size, hF⟩
theorem M3.box (h : M3 w0 bs mb F E N D s m W) (f : Fr W W' (fun k => E k ∧ F k = none)) : M3 w0 bs mb F E N D s m W' := by
  obtain ⟨X, hh⟩ := h
  refine M3.re ⟨X, hh⟩ (f.mono (fun k _ hk => hk.1)) (fun k o ho => ⟨(hh.2.2.2.2.2.2 k o ho).1, ?_⟩)
  rw [f.block k (hh.2.2.2.2.1 k (hh.2.2.2.2.2.2 k o ho).1).2 (fun hk => by rw [ho] at hk; cases hk.2)]
  exact (hh.2.2.2.2.2.2 k o ho).2
/-- Boxes are let go. -/
theorem M3.bare {E0 : Nat → Prop} (h : M3 w0 bs mb F E N D s m W) (hE : ∀ k, E0 k → E k) (hF : ∀ k o, F k = some o → E0 k) : M3 w0 bs mb F E0 N D s m W := by
  obtain ⟨X, h1, h2, h3, h4, h5, h6, h7⟩ := h
  exact ⟨X, h1, fun k hk => ⟨(h2 k hk).1, fun h => (h2 k hk).2.1 (hE k h), (h2 k hk).2.2⟩, h3.imp (fun k _ hk => ⟨hk.1, fun h => hk.2 (hE k h)⟩), h4, fun k hk => h5 k (hE k hk), h6, fun k o ho => ⟨hF k o ho, (h7 k o ho).2⟩⟩
theorem M3.held (h : M3 w0 bs mb F E N D s m W) {k : Nat} {o : Obj} (ho : F k = some o) : E k ∧ W.heap[k]? = some o := by obtain ⟨X, h⟩ := h; exact h.2.2.2.2.2.2 k o ho
theorem M3.lt (h : M3 w0 bs mb F E N D s m W) {k : Nat} (hk : E k) : k < W.heap.size := by obtain ⟨X, h⟩ := h; exact (h.2.2.2.2.1 k hk).2
theorem M3.inv (h : M3 w0 bs mb F E N D s m W) : Inv s := by obtain ⟨X, h, _⟩ := h; exact h.mg.inv
theorem M3.frame (h : M3 w0 bs mb F E N D s m W) : Fr w0 W (fun k => bs ≤ k) := by obtain ⟨X, h⟩ := h; exact h.2.2.2.1
-- the manager's calls
theorem M3.begin (h : M3 w0 bs mb F E N D s m W) (hb1 : s.begun ≤ 9000000000000000000) (hN : N < 4611686018427387904) : Calls Try.prog 15 #[.pointer (some ⟨mb, 0, none⟩)] W fun e w' => e = .returned (.tuple #[.int .i64 (s.begun + 1), .int .i64 s.last]) ∧ ∃ kb pb, M3 w0 bs mb F E (N + 1) D (begS s (s.begun + 1) kb pb) m w' ∧ Fr W w' (fun k => ¬ E k) := by
  obtain ⟨X, h⟩ := h
  refine (mgx_begin h.1 hb1 hN).mono ?_
  rintro e w' ⟨rfl, ⟨kb, pb, q1⟩, q2⟩
  exact ⟨rfl, kb, pb, h.mgr q1 (fun k hk => hk) q2, q2.mono (fun k _ hk => (h.2.1 k hk).2.1)⟩
theorem M3.tick (h : M3 w0 bs mb F E N D s m W) (n : Int) : Calls Try.prog 19 #[.pointer (some ⟨mb, 0, none⟩), .int .i64 n] W fun e w' => e = .returned (.tuple #[]) ∧ M3 w0 bs mb F E N D { s with now := tickP s.now n } m w' ∧ Fr W w' (fun k => ¬ E k) := by
  obtain ⟨X, h⟩ := h
  refine (mgx_tick h.1 n).mono ?_
  rintro e w' ⟨rfl, q1, q2⟩
  exact ⟨rfl, h.mgr q1 (fun k hk => .inl hk) q2, q2.mono (fun k _ hk => (h.2.1 k hk).2.1)⟩
theorem M3.write (h : M3 w0 bs mb F E N D s m W) (hbs : w0.heap.size ≤ bs) (t : Int) (ht : In64 t) (ka : Option Addr) (kn kc : Nat) (K : List ByteArray) (hK : StrsIn (fun k => k < w0.heap.size) w0 ka K) (hkn : K.length = kn) (hN : ∀ x, s.act t = some x → x.kn + kn < 4611686018427387904) : Calls Try.prog 16 #[.pointer (some ⟨mb, 0, none⟩), .int .i64 t, .slice ka kn kc] W fun e w' => (s.act t = none ∧ e = .returned (.int .i64 70) ∧ w' = W) ∨ (∃ x, s.act t = some x ∧ e = .returned (.int .i64 0) ∧ M3 w0 bs mb F E N D (setT s t (some { x with ks := addK x.ks K, kn := x.kn + kn })) m w' ∧ Fr W w' (fun k => ¬ E k)) := by
  obtain ⟨X, h⟩ := h
  refine (mgx_write h.1 t ht ka kn kc K ((hK.fr h.2.2.2.1 (fun k hk hh => by have hk : k < w0.heap.size := hk; omega)).imp (fun k hk hx => by have := (h.2.1 k hx).1; have hk : k < w0.heap.size := hk; omega)) hkn hN).mono ?_
  rintro e w' (q | ⟨x, q1, q2, q3, q4⟩)
  · exact .inl q
  · exact .inr ⟨x, q1, q2, h.mgr q3 (fun k hk => .inl hk) q4, q4.mono (fun k _ hk => (h.2.1 k hk).2.1)⟩
theorem M3.abort (h : M3 w0 bs mb F E N D s m W) (t : Int) (ht : In64 t) (hb : s.begun ≤ 9000000000000000000) : Calls Try.prog 21 #[.pointer (some ⟨mb, 0, none⟩), .int .i64 t] W fun e w' => (s.act t = none ∧ e = .returned (.int .i64 70) ∧ w' = W) ∨ (s.act t ≠ none ∧ e = .returned (.int .i64 0) ∧ ∃ s', M3 w0 bs mb F E N D s' m w' ∧ Ended s t s' ∧ Fr W w' (fun k => ¬ E k)) := by
  obtain ⟨X, h⟩ := h
  refine (abort_x h.1 t ht hb).mono ?_
  rintro e w' (q | ⟨q1, q2, ⟨s', q3, q4⟩, q5⟩)
  · exact .inl q
  · exact .inr ⟨q1, q2, s', h.mgr q3 (fun k hk => .inl hk) q5, q4, q5.mono (fun k _ hk => (h.2.1 k hk).2.1)⟩
def CommitM (w0 : World) (bs mb : Nat) (F : Nat → Option Obj) (E : Nat → Prop) (N D : Nat) (s : St) (m : Dm) (t : Int) (W : World) (e : Ending) (w' : World) : Prop :=
  e = .returned (.tuple #[.int .i64 (chk s t).1, .int .i64 (chk s t).2]) ∧ Fr W w' (fun k => ¬ E k) ∧
   (((chk s t).2 ≠ 0 ∧ (chk s t).2 ≠ 120 ∧ M3 w0 bs mb F E N D s m w') ∨
    (∃ x s1 s', s.act t = some x ∧ M3 w0 bs mb F E (N + x.kn) (D + 1) s' m w' ∧ Ended s1 t s' ∧ ((s1 = s ∧ (chk s t = (0, 120) ∨ (Empty x ∧ chk s t = (x.snap, 0)))) ∨ (¬ Empty x ∧ ¬ Crosses s x ∧ chk s t = (nextP s, 0) ∧ nextP s < 1099511627776 ∧ ∃ dv, s1 = keepS (lastS s (nextP s)) t x (nextP s) dv))))
theorem M3.commit (h : M3 w0 bs mb F E N D s m W) (t : Int) (ht : In64 t) (hb : s.begun ≤ 9000000000000000000) (hN : ∀ x, s.act t = some x → N + x.kn < 4611686018427387904) (hD : D ≤ 4398046511104) : Calls Try.prog 17 #[.pointer (some ⟨mb, 0, none⟩), .int .i64 t] W fun e w' => CommitM w0 bs mb F E N D s m t W e w' := by
  obtain ⟨X, h⟩ := h
  refine (commit_x h.1 t ht hb hN hD).mono ?_
  rintro e w' ⟨q0, qf, ⟨q1, q2, q3⟩ | ⟨x, s1, s', q1, q2, q3, q4⟩⟩
  · exact ⟨q0, qf.mono (fun k _ hk => (h.2.1 k hk).2.1), .inl ⟨q1, q2, h.mgr q3 (fun k hk => .inl hk) qf⟩⟩
  · exact ⟨q0, qf.mono (fun k _ hk => (h.2.1 k hk).2.1), .inr ⟨x, s1, s', q1, h.mgr q2 (fun k hk => hk) qf, q3, q4⟩⟩
theorem M3.check (h : M3 w0 bs mb F E N D s m W) (t : Int) (ht : In64 t) : Calls Try.prog 24 #[.pointer (some ⟨mb, 0, none⟩), .int .i64 t] W fun e w' => e = .returned (.tuple #[.int .i64 (chk s t).1, .int .i64 (chk s t).2]) ∧ M3 w0 bs mb F E N D s m w' ∧ Fr W w' (fun _ => False) := by
  have hh := h
  obtain ⟨X, ⟨rl, hl, hi, _⟩, _⟩ := h
  refine (check_any hl t ht hi.l0 hi.l1).mono ?_
  rintro e w' ⟨q1, q2⟩
  exact ⟨q1, hh.fr q2, q2⟩
theorem M3.now (h : M3 w0 bs mb F E N D s m W) : Calls Try.prog 12 #[.pointer (some ⟨mb, 0, none⟩)] W fun e w' => e = .returned (.int .i64 s.now) ∧ w' = W := by
  obtain ⟨X, h⟩ := h
  exact mg_now h.1.mg
theorem M3.last (h : M3 w0 bs mb F E N D s m W) : Calls Try.prog 13 #[.pointer (some ⟨mb, 0, none⟩)] W fun e w' => e = .returned (.int .i64 s.last) ∧ w' = W := by
  obtain ⟨X, h⟩ := h
  exact mg_last h.1.mg
-- the document's calls
theorem M3.dbegin (h : M3 w0 bs mb F E N D s m W) (hnb : m.A.length ≤ 1048576) (hb0 : 0 ≤ m.begun) (hb1 : m.begun ≤ 9000000000000000000) : Calls Try.prog 22 #[m.agg] W fun e w' => ∃ a c, e = .returned ({ m with begun := m.begun + 1, aa := a, ac := c, A := m.A ++ [newR m] } : Dm).agg ∧ M3 w0 bs mb F E N D s { m with begun := m.begun + 1, aa := a, ac := c, A := m.A ++ [newR m] } w' ∧ Fr W w' (fun _ => False) := by
  obtain ⟨X, h⟩ := h
  refine (begin_ref h.2.2.1 h.hQ hnb hb0 hb1).mono ?_
  rintro e w' ⟨a, c, q1, q2, q3⟩
  exact ⟨a, c, q1, h.doc q2 q3, q3⟩
theorem M3.dtick (h : M3 w0 bs mb F E N D s m W) (n : Int) (h0 : 0 ≤ m.now) (h1 : m.now ≤ 1099511627776) (hn : In64 n) : Calls Try.prog 28 #[m.agg, .int .i64 n] W fun e w' => e = .returned ({ m with now := tickP m.now n } : Dm).agg ∧ M3 w0 bs mb F E N D s { m with now := tickP m.now n } w' ∧ Fr W w' (fun _ => False) := by
  obtain ⟨X, h⟩ := h
  refine (tick_ref h.2.2.1 n h0 h1 hn).mono ?_
  rintro e w' ⟨q1, q2, q3⟩
  exact ⟨q1, h.doc q2 q3, q3⟩
theorem M3.dfind (h : M3 w0 bs mb F E N D s m W) (t : Int) (hnb : m.A.length ≤ 1048576) : Calls Try.prog 29 #[m.agg, .int .i64 t] W fun e w' => Fr W w' (fun _ => False) ∧ ((∃ (i : Nat) (x : Rw), First m t i x ∧ e = .returned (.int .i64 (i : Int))) ∨ ((∀ x ∈ m.A, x.id ≠ t) ∧ e = .returned (.int .i64 (-1)))) := by
  obtain ⟨X, h⟩ := h
  refine (find_ref h.2.2.1 t hnb).mono ?_
  rintro e w' ⟨q1, ⟨i, x, q2, q3, q4, q5⟩ | q⟩
  · exact ⟨q1, .inl ⟨i, x, ⟨q2, q3, q4⟩, q5⟩⟩
  · exact ⟨q1, .inr q⟩
theorem M3.dcheck (h : M3 w0 bs mb F E N D s m W) (hnb : m.A.length ≤ 1048576) (hhb : m.H.length ≤ 1048576) (hkb : ∀ x, (x ∈ m.A ∨ x ∈ m.H) → x.K.length ≤ 1048576) (t : Int) (h0 : 0 ≤ m.last) (h1 : m.last ≤ 1099511627776) : Calls Try.prog 25 #[m.agg, .int .i64 t] W fun e w' => ∃ a b, e = .returned (.tuple #[.int .i64 a, .int .i64 b]) ∧ ChkD m t a b ∧ M3 w0 bs mb F E N D s m w' ∧ Fr W w' (fun _ => False) := by
  have hh := h
  obtain ⟨X, h⟩ := h
  refine (check_ref h.2.2.1 hnb hhb hkb t h0 h1).mono ?_
  rintro e w' ⟨a, b, q1, q2, q3⟩
  exact ⟨a, b, q1, q2, hh.fr q3, q3⟩
def CommitN (w0 : World) (bs mb : Nat) (F : Nat → Option Obj) (E : Nat → Prop) (N D : Nat) (s : St) (W : World) (m : Dm) (t : Int) (e : Ending) (w' : World) : Prop :=
  ∃ a b m', ChkD m t a b ∧ Fr W w' (fun _ => False) ∧ M3 w0 bs mb F E N D s m' w' ∧
   ((b ≠ 0 ∧ b ≠ 120 ∧ e = .returned (.tuple #[m'.agg, .int .i64 0, .int .i64 b]) ∧ m' = m) ∨
    (e = .returned (.tuple #[m'.agg, .int .i64 a, .int .i64 b]) ∧ ∃ (i : Nat) (x : Rw) (aa : Option Addr) (ac : Nat), First m t i x ∧ ((((b = 0 ∧ x.K = []) ∨ b = 120) ∧ m' = { m with aa := aa, ac := ac, A := erased m i }) ∨ (b = 0 ∧ x.K ≠ [] ∧ ∃ (ha : Option Addr) (hc : Nat), m' = { m with last := a, aa := aa, ac := ac, A := erased m i, ha := ha, hc := hc, H := m.H ++ [⟨t, a, x.ka, x.kn, x.kc, x.K⟩] }))))
theorem M3.dcommit (h : M3 w0 bs mb F E N D s m W) (hnb : m.A.length ≤ 1048576) (hhb : m.H.length ≤ 1048576) (hkb : ∀ x, (x ∈ m.A ∨ x ∈ m.H) → x.K.length ≤ 1048576) (t : Int) (h0 : 0 ≤ m.last) (h1 : m.last ≤ 1099511627776) : Calls Try.prog 26 #[m.agg, .int .i64 t] W fun e w' => CommitN w0 bs mb F E N D s W m t e w' := by
  have hh := h
  obtain ⟨X, h⟩ := h
  refine (commit_ref h.2.2.1 h.hQ hnb hhb hkb t h0 h1).mono ?_
  rintro e w' ⟨a, b, q1, q2, ⟨r1, r2, r3, r4⟩ | ⟨i, x, aa, ac, r1, r2, r3, r4⟩ | ⟨i, x, aa, ac, ha, hc, r1, r2, r3, r4, r5⟩⟩
  · exact ⟨a, b, m, q1, q2, h.doc r4 q2, .inl ⟨r1, r2, r3, rfl⟩⟩
  · exact ⟨a, b, _, q1, q2, h.doc r4 q2, .inr ⟨r3, i, x, aa, ac, r1, .inl ⟨r2, rfl⟩⟩⟩
  · exact ⟨a, b, _, q1, q2, h.doc r5 q2, .inr ⟨r4, i, x, aa, ac, r1, .inr ⟨r2, r3, ha, hc, rfl⟩⟩⟩
theorem M3.dwrite (h : M3 w0 bs mb F E N D s m W) (hbs : w0.heap.size ≤ bs) (hnb : m.A.length ≤ 1048576) (t : Int) (ka : Option Addr) (kn kc : Nat) (K2 : List ByteArray) (hK : StrsIn (fun k => k < w0.heap.size) w0 ka K2) (hkn : K2.length = kn) (hkc : ka = none → kc = 0) (hkb : ∀ x ∈ m.A, x.K.length + kn ≤ 2199023255552) : Calls Try.prog 23 #[m.agg, .int .i64 t, .slice ka kn kc] W fun e w' => ∃ m', M3 w0 bs mb F E N D s m' w' ∧ Fr W w' (fun _ => False) ∧ (((∀ x ∈ m.A, x.id ≠ t) ∧ m' = m ∧ e = .returned (.tuple #[m'.agg, .int .i64 70])) ∨ (∃ (i : Nat) (x : Rw) (a : Option Addr) (c : Nat) (k1 : Option Addr) (k2 k3 : Nat), First m t i x ∧ m' = { m with aa := a, ac := c, A := m.A.set i ⟨x.id, x.st, k1, k2, k3, x.K ++ K2⟩ } ∧ e = .returned (.tuple #[m'.agg, .int .i64 0]))) := by
  obtain ⟨X, h⟩ := h
  by_cases hp : ∃ x ∈ m.A, x.id = t
  · obtain ⟨x, hx, he⟩ := hp
    obtain ⟨i, z, hz⟩ := first_of hx he
    have hKW := hK.fr h.2.2.2.1 (fun k hk hh => by have hk : k < w0.heap.size := hk; omega)
    refine (write_ref h.2.2.1 h.hQ hnb t ka kn kc K2 hKW hkn hkc i z hz.1 hz.2.1 hz.2.2 (hkb z (List.mem_of_getElem? hz.1))).mono ?_
    rintro e w' ⟨a, c, k1, k2, k3, q1, q2, q3⟩
    exact ⟨_, h.doc q2 q3, q3, .inr ⟨i, z, a, c, k1, k2, k3, hz, rfl, q1⟩⟩
  · have hno : ∀ x ∈ m.A, x.id ≠ t := fun x hx he => hp ⟨x, hx, he⟩
    refine (write_ref_no h.2.2.1 hnb t ka kn kc hno).mono ?_
    rintro e w' ⟨q1, q2, q3⟩
    exact ⟨m, h.doc q2 q3, q3, .inl ⟨hno, rfl, q1⟩⟩
end
end Go.Proofs.Ytiooacaplajidaa
