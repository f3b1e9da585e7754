/- MvccFirst: the manager and the statement's lists together, call by call. -/
import Derived.Test.YtiooacaplajidaaNi
namespace Go.Proofs.Ytiooacaplajidaa
open Go.RowKit
set_option maxRecDepth 100000
set_option linter.unusedVariables false
set_option linter.unusedSimpArgs false

theorem own_lt {w : World} {base : Nat} {e : TypeId} {sz : Nat} {v : Value} {n g : Nat} {xs : List Value} (h : w.ownsRow base e sz v n xs) (hg : v.ownBlock = some g) : g < w.heap.size ∧ base ≤ g := by
  obtain ⟨_, ⟨h1, _⟩ | ⟨g', cap, cur, h1, hb, hc, _⟩⟩ := h
  · subst h1; cases hg
  · subst h1
    cases hg
    exact ⟨(Array.getElem?_eq_some_iff.1 hc).1, hb⟩
theorem own_shape {w : World} {base : Nat} {e : TypeId} {sz : Nat} {v : Value} {n : Nat} {xs : List Value} (h : w.ownsRow base e sz v n xs) : ∃ a c, v = .slice a n c := by
  exact shape_n h
/-- A cell of a row of the call's own. -/
theorem own_cell {w : World} {base : Nat} {e : TypeId} {sz : Nat} {a : Option Addr} {n m c : Nat} {xs : List Value} {j : Nat} {u : Value} (h : w.ownsRow base e sz (.slice a n c) m xs) (hj : xs[j]? = some u) : ∃ g, a = some ⟨g, 0, none⟩ ∧ w.cell? ⟨g, j, none⟩ = some u := by
  obtain ⟨hl, ⟨h1, h2, _⟩ | ⟨g', cap, cur, h1, hb, hc, hn, hcap, hs, ht⟩⟩ := h
  · rw [Nat.zero_mul] at hl
    have := (List.getElem?_eq_some_iff.1 hj).1
    omega
  · cases h1
    refine ⟨g', rfl, ?_⟩
    rw [cell_of_row _ _ _ _ _ _ hc, ← Array.getElem?_toList]
    have h2 := (List.getElem?_eq_some_iff.1 hj).1
    rw [← ht, List.getElem?_take_of_lt (by omega)] at hj
    exact hj
structure FL (w wr : World) (bs mb N D : Nat) (v4 v5 v6 : Value) (X : Nat → Prop) (fr : Nat → Option FRole) (s : St) (sn : List Int) (ks : List (List ByteArray)) (kv : List Value) (dl : List (Dd × Value)) : Prop where
  m : MGx X wr bs mb N D s
  f : FM wr bs X fr v4 v5 v6 sn ks kv dl
  x : ∀ k, X k → bs ≤ k ∧ k < wr.heap.size
  b : bs ≤ wr.heap.size
  g : Fr w wr (fun k => bs ≤ k)
section
variable {w wr wr' : World} {bs mb N D N' D' : Nat} {v4 v5 v6 : Value} {X : Nat → Prop} {fr : Nat → Option FRole} {s s' : St} {sn : List Int} {ks : List (List ByteArray)} {kv : List Value} {dl : List (Dd × Value)}
theorem FL.same (h : FL w wr bs mb N D v4 v5 v6 X fr s sn ks kv dl) (hf : Fr wr wr' (fun _ => False)) : FL w wr' bs mb N D v4 v5 v6 X fr s sn ks kv dl :=
  ⟨h.m.fr hf (fun _ _ _ h => h), h.f.same hf, fun k hk => ⟨(h.x k hk).1, Nat.lt_of_lt_of_le (h.x k hk).2 hf.size⟩, Nat.le_trans h.b hf.size, (h.g.trans hf).mono (fun k _ h => by rcases h with h | h; exact h; exact h.elim)⟩
theorem FL.more (h : FL w wr bs mb N D v4 v5 v6 X fr s sn ks kv dl) (hN : N ≤ N') (hD : D ≤ D') : FL w wr bs mb N' D' v4 v5 v6 X fr s sn ks kv dl :=
  ⟨h.m.more hN (by obtain ⟨_, _, _, h3, _⟩ := h.m; omega), h.f, h.x, h.b, h.g⟩
theorem FL.call (h : FL w wr bs mb N D v4 v5 v6 X fr s sn ks kv dl) (hf : Fr wr wr' X) (hm : MGx (fun k => X k ∨ wr.heap.size ≤ k) wr' bs mb N' D' s') : FL w wr' bs mb N' D' v4 v5 v6 (fun k => (X k ∨ wr.heap.size ≤ k) ∧ bs ≤ k ∧ k < wr'.heap.size) fr s' sn ks kv dl :=
  ⟨hm.imp (fun k h1 h2 h3 => ⟨h3, h1, h2⟩), (h.f.call hf).move (Fr.refl _ (fun _ => False)) (fun _ _ _ h => h) (fun g r hg hx => ((h.f.call hf).lo g r hg).2.2 hx.1), fun k hk => ⟨hk.2.1, hk.2.2⟩, Nat.le_trans h.b hf.size,
   (h.g.trans hf).mono (fun k _ hk => by rcases hk with hk | hk; exact hk; exact (h.x k hk).1)⟩
theorem FL.inv (h : FL w wr bs mb N D v4 v5 v6 X fr s sn ks kv dl) : Inv s := h.m.mg.inv
/-- What touches one of the statement's own blocks leaves the manager. -/
theorem FL.apart (h : FL w wr bs mb N D v4 v5 v6 X fr s sn ks kv dl) {Z : Nat → Prop} (hf : Fr wr wr' Z) (hz : ∀ k, Z k → k < wr.heap.size → ∃ r, fr k = some r) : MGx X wr' bs mb N D s ∧ (∀ k, X k → bs ≤ k ∧ k < wr'.heap.size) ∧ bs ≤ wr'.heap.size ∧ Fr w wr' (fun k => bs ≤ k) := by
  refine ⟨h.m.fr hf (fun k hk hx hzk => ?_), fun k hk => ⟨(h.x k hk).1, Nat.lt_of_lt_of_le (h.x k hk).2 hf.size⟩, Nat.le_trans h.b hf.size, ⟨hf.os.trans h.g.os, hf.tape.trans h.g.tape, hf.output.trans h.g.output, Nat.le_trans h.g.size hf.size, fun k hk hb => ?_⟩⟩
  · obtain ⟨r, hr⟩ := hz k hzk hk
    exact (h.f.lo k r hr).2.2 hx
  · have hlt := Nat.lt_of_lt_of_le hk h.g.size
    rw [hf.block k hlt (fun hzk => by obtain ⟨r, hr⟩ := hz k hzk hlt; exact hb (h.f.lo k r hr).1)]
    exact h.g.block k hk hb
theorem FL.snap (h : FL w wr bs mb N D v4 v5 v6 X fr s sn ks kv dl) (l : Int) (ty : TypeId) (hl : sn.length + 1 ≤ 2199023255552) : ∃ v' w', (Builtin.append_ #[46, 46] ty #[v4, .slice (some ⟨wr.heap.size, 0, none⟩) 1 1]).run Try.prog (wr.alloc (.cells #[.int .i64 l] 2)) = .ok v' w' ∧ ∃ fr', FL w w' bs mb N D v' v5 v6 X fr' s (sn ++ [l]) ks kv dl := by
  have h1 := h.same (Fr.alloc wr (.cells #[.int .i64 l] 2) (fun _ => False))
  obtain ⟨v', w', hr, q1, q2, q3⟩ := app_snap h1.f.s h1.b ty wr.heap.size l (by rw [cell_of_row _ _ _ _ _ _ (heap_alloc_new wr _)]; rfl) hl
  obtain ⟨fr', hf⟩ := h1.f.snap l (fun k hk => (h1.x k hk).2) q1 q2 q3 (fun hb => ⟨(own_lt q1 hb).1, h1.b⟩)
  obtain ⟨a1, a2, a3, a4⟩ := h1.apart q2 (fun k hk _ => ⟨_, h1.f.rs k hk⟩)
  exact ⟨v', w', hr, fr', a1, hf, a2, a3, a4⟩
theorem FL.keys (h : FL w wr bs mb N D v4 v5 v6 X fr s sn ks kv dl) (ty : TypeId) (hl : ks.length + 1 ≤ 2199023255552) : ∃ v' w', (Builtin.append_ #[51, 51] ty #[v5, .slice (some ⟨wr.heap.size, 0, none⟩) 1 1]).run Try.prog (wr.alloc (.cells #[.slice none 0 0] 31)) = .ok v' w' ∧ ∃ fr', FL w w' bs mb N D v4 v' v6 X fr' s sn (ks ++ [[]]) (kv ++ [.slice none 0 0]) dl := by
  have h1 := h.same (Fr.alloc wr (.cells #[.slice none 0 0] 31) (fun _ => False))
  obtain ⟨v', w', hr, q1, q2, q3⟩ := app_keys h1.f.k h1.b ty wr.heap.size (by rw [cell_of_row _ _ _ _ _ _ (heap_alloc_new wr _)]; rfl) hl
  obtain ⟨fr', hf⟩ := h1.f.keysN (fun k hk => (h1.x k hk).2) q1 q2 q3 (fun hb => ⟨(own_lt q1 hb).1, h1.b⟩)
  obtain ⟨a1, a2, a3, a4⟩ := h1.apart q2 (fun k hk _ => ⟨_, h1.f.rk k hk⟩)
  exact ⟨v', w', hr, fr', a1, hf, a2, a3, a4⟩
theorem FL.done (h : FL w wr bs mb N D v4 v5 v6 X fr s sn ks kv dl) (i : Nat) (K : List ByteArray) (ka : Option Addr) (kn kc : Nat) (v : Int) (hK : ks[i]? = some K) (hu : kv[i]? = some (.slice ka kn kc)) (ty : TypeId) (hl : dl.length + 1 ≤ 2199023255552) : ∃ v' w', (Builtin.append_ #[22, 22] ty #[v6, .slice (some ⟨wr.heap.size, 0, none⟩) 1 1]).run Try.prog (wr.alloc (.cells #[.int .i64 0, .int .i64 i, .slice ka kn kc, .int .i64 v] 33)) = .ok v' w' ∧ ∃ fr', FL w w' bs mb N D v4 v5 v' X fr' s sn ks kv (dl ++ [(⟨i, K, v⟩, .slice ka kn kc)]) := by
  have h1 := h.same (Fr.alloc wr (.cells #[.int .i64 0, .int .i64 i, .slice ka kn kc, .int .i64 v] 33) (fun _ => False))
  have hn := heap_alloc_new wr (.cells #[.int .i64 0, .int .i64 i, .slice ka kn kc, .int .i64 v] 33)
  obtain ⟨v', w', hr, q1, q2, q3⟩ := app_op h1.f.d h1.b ty wr.heap.size 0 i v ka kn kc (by rw [cell_of_row _ _ _ _ _ _ hn]; rfl) (by rw [cell_of_row _ _ _ _ _ _ hn]; rfl) (by rw [cell_of_row _ _ _ _ _ _ hn]; rfl) (by rw [cell_of_row _ _ _ _ _ _ hn]; rfl) hl
  obtain ⟨fr', hf⟩ := h1.f.doneN (⟨i, K, v⟩, .slice ka kn kc) (fun k hk => (h1.x k hk).2) (h1.f.ke i K _ hK hu) (fun g hg => ⟨i, rfl, h1.f.re i _ g hu hg⟩) q1 q2 q3 (fun hb => ⟨(own_lt q1 hb).1, h1.b⟩)
  obtain ⟨a1, a2, a3, a4⟩ := h1.apart q2 (fun k hk _ => ⟨_, h1.f.rd k hk⟩)
  exact ⟨v', w', hr, fr', a1, hf, a2, a3, a4⟩
theorem FL.key {g5 n5 c5 : Nat} (h : FL w wr bs mb N D v4 (.slice (some ⟨g5, 0, none⟩) n5 c5) v6 X fr s sn ks kv dl) (hn5 : n5 = ks.length) {P : Nat → Prop} (i : Nat) (K K2 : List ByteArray) (u : Value) (hK : ks[i]? = some K) (hu : kv[i]? = some u) (hid : ∀ p ∈ dl, p.1.id ≠ (i : Int)) (ka : Option Addr) (m c : Nat) (hm : K2.length = m) (hK2 : StrsIn P wr ka K2) (hc : ka = none → c = 0) (ty : TypeId) (hl : K.length + m ≤ 2199023255552) :
    ∃ u' w', (Builtin.append_ #[31, 31] ty #[u, .slice ka m c]).run Try.prog wr = .ok u' w' ∧ Fr wr w' (fun k => fr k = some (.key i)) ∧ ∃ fr', FL w (w'.setCell ⟨g5, i, none⟩ u') bs mb N D v4 (.slice (some ⟨g5, 0, none⟩) n5 c5) v6 X fr' s sn (ks.set i (K ++ K2)) (kv.set i u') dl := by
  obtain ⟨u', w', hr, q1, q2, q3⟩ := app_any (h.f.ke i K u hK hu) h.b ty ka m c K2 hm hK2 hc hl
  subst hm
  obtain ⟨fr', hf⟩ := h.f.key hn5 (fun k hk => (h.x k hk).2) hK hu hid q1 q2 q3 (fun hb => ⟨(own_lt q1 hb).1, h.b⟩)
  have F2 := q2.trans (Fr.setCell w' ⟨g5, i, none⟩ u')
  obtain ⟨a1, a2, a3, a4⟩ := h.apart F2 (fun k hk _ => by
    rcases hk with hk | hk
    · exact ⟨_, h.f.re i u k hu hk⟩
    · have hk : k = g5 := hk
      subst hk
      exact ⟨_, h.f.rk k rfl⟩)
  exact ⟨u', w', hr, q2.mono (fun k _ hk => h.f.re i u k hu hk), fr', a1, hf, a2, a3, a4⟩
end
structure FP (s : St) (sn : List Int) (ks : List (List ByteArray)) (dn : List Dd) (last : Int) (B Q : Nat) : Prop where
  i : FI s sn ks dn last
  d : DI s dn
  bg : s.begun ≤ (B : Int)
  kn : ∀ t x, s.act t = some x → x.kn ≤ Q
  kl : ∀ K ∈ ks, K.length ≤ Q
  dk : ∀ d ∈ dn, d.K.length ≤ Q
  dl : dn.length ≤ B
section
variable {s s' : St} {sn : List Int} {ks : List (List ByteArray)} {dn : List Dd} {last : Int} {B Q B' Q' : Nat}
theorem FP.more (h : FP s sn ks dn last B Q) (hB : B ≤ B') (hQ : Q ≤ Q') : FP s sn ks dn last B' Q' :=
  ⟨h.i, h.d, by have := h.bg; omega, fun t x hx => Nat.le_trans (h.kn t x hx) hQ, fun K hK => Nat.le_trans (h.kl K hK) hQ, fun d hd => Nat.le_trans (h.dk d hd) hQ, Nat.le_trans h.dl hB⟩
theorem FP.begin (h : FP s sn ks dn last B Q) (hi : Inv s) (kb pb : Nat) : FP (begS s (s.begun + 1) kb pb) (sn ++ [s.last]) (ks ++ [[]]) dn last (B + 1) Q := by
  have hb := h.bg
  refine ⟨h.i.begin hi kb pb, h.d.begin kb pb, (by show s.begun + 1 ≤ ((B + 1 : Nat) : Int); omega), fun t x hx => ?_, fun K hK => ?_, h.dk, by have := h.dl; omega⟩
  · unfold begS at hx
    simp only at hx
    split at hx
    · cases hx; exact Nat.zero_le _
    · exact h.kn t x hx
  · rcases List.mem_append.1 hK with hK | hK
    · exact h.kl K hK
    · rw [List.mem_singleton] at hK; subst hK; exact Nat.zero_le _
theorem FP.tick (h : FP s sn ks dn last B Q) (n : Int) : FP { s with now := n } sn ks dn last B Q := ⟨h.i.tick n, h.d.tick n, h.bg, h.kn, h.kl, h.dk, h.dl⟩
theorem FP.write (h : FP s sn ks dn last B Q) {i : Nat} {x : Tx} (hx : s.act i = some x) (K K2 : List ByteArray) (hK : ks[i]? = some K) (hk2 : ∀ k ∈ K2, k.size ≤ maxLen) (kn : Nat) (hkn : K2.length = kn) : FP (setT s i (some { x with ks := addK x.ks K2, kn := x.kn + kn })) sn (ks.set i (K ++ K2)) dn last B (Q + kn) := by
  refine ⟨h.i.write hx K K2 hK hk2 _, h.d.write hx _, h.bg, fun t y hy => ?_, fun K3 hK3 => ?_, fun d hd => Nat.le_trans (h.dk d hd) (by omega), h.dl⟩
  · unfold setT at hy
    simp only at hy
    split at hy
    · cases hy
      have := h.kn i x hx
      show x.kn + kn ≤ Q + kn
      omega
    · have := h.kn t y hy; omega
  · rcases List.mem_or_eq_of_mem_set hK3 with h3 | h3
    · have := h.kl K3 h3; omega
    · subst h3
      have := h.kl K (List.mem_of_getElem? hK)
      rw [List.length_append]; omega
theorem FP.ended {t : Int} (h : FP s sn ks dn last B Q) (hE : Ended s t s') : FP s' sn ks dn last B Q :=
  ⟨h.i.ended hE, h.d.ended hE, by rw [hE.begun]; exact h.bg, fun u y hy => h.kn u y (by rw [hE.act] at hy; exact act_set hy), h.kl, h.dk, h.dl⟩
theorem FP.keep {i : Nat} {x : Tx} {K : List ByteArray} {v : Int} {dv : Value} (h : FP s sn ks dn last B Q) (hx : s.act i = some x) (hib : (i : Int) ≤ s.begun) (hK : ks[i]? = some K) (hv : s.last < v) (hE : Ended (keepS (lastS s v) i x v dv) i s') : FP s' sn ks (dn ++ [⟨i, K, v⟩]) v (B + 1) Q := by
  refine ⟨h.i.keep hx hK hv hE, h.d.keep K hib hE, ?_, fun u y hy => ?_, h.kl, fun d hd => ?_, by rw [List.length_append]; have := h.dl; simp; omega⟩
  · rw [hE.begun]
    show s.begun ≤ ((B + 1 : Nat) : Int)
    have := h.bg
    omega
  · rw [hE.act] at hy
    exact h.kn u y (act_set (s := keepS (lastS s v) i x v dv) hy)
  · rcases List.mem_append.1 hd with hd | hd
    · exact h.dk d hd
    · rw [List.mem_singleton] at hd; subst hd; exact h.kl K (List.mem_of_getElem? hK)
end
end Go.Proofs.Ytiooacaplajidaa
