/- BtreeRanges: ranges are parts of the whole, rising; a walk may be left, and the tree changed within it. -/
import Derived.Test.YtaonhgabnbmcfaaZs
import Derived.Deep.QuietTactic
import Derived.BigQuiet
namespace Go.Proofs.Ytaonhgabnbmcfaa
open Go.RowKit Go.Shelf
set_option maxRecDepth 100000
set_option linter.unusedVariables false
set_option linter.unusedSimpArgs false


/-- How a body is left: at its end or by a return. -/
def leaves (n : Nat) (fn : Func) (R : Ending → World → Prop) : Exit → Act → World → Prop
  | .normal, a, w | .ret, a, w => LeavesInM Fence.wide n Try.prog fn a.tmps R a.defers .returning w
  | _, _, _ => False
theorem leaves_post {n : Nat} {fn : Func} {R : Ending → World → Prop} : ∀ e a w, leaves n fn R e a w → bodyPostM Fence.wide n Try.prog fn R e a w
  | .normal, _, _, h => h
  | .ret, _, _, h => h
  | .exit _, _, _, h => h.elim
  | .goto _, _, _, h => h.elim
  | .panic _, _, _, h => h.elim
  | .outgrown, _, _, h => h.elim
theorem results_bc {fn : Func} {p : Tmp} (h : fn.results = #[.cell p 4]) (tmps : Array Value) (w : World) (g : Nat) {b : Bool} (ht : Boxed w g 4 (.bool b)) (hp : tmps.getD p undef = .pointer (some ⟨g, 0, none⟩)) :
    (results fn tmps).run Try.prog w = .ok (.bool b) w := by
  have hp' : tmps[p]?.getD undef = .pointer (some ⟨g, 0, none⟩) := by simpa using hp
  have hc := ht.cell
  simp [results, h, hp', asAddr, loadVar, run_underlying Try.underlying4, go_sem, hc]
theorem bx_frz {w w' : World} {B : Nat} {t : TypeId} {v : Value} {Z : Nat → Prop} (h : Boxed w B t v) (hf : Fr w w' Z) (hz : ¬ Z B) : Boxed w' B t v := (hf.block B h.lt hz).trans h
theorem bx_put {w : World} {B : Nat} {t : TypeId} {v : Value} (h : Boxed w B t v) (u : Value) : Boxed (w.setCell ⟨B, 0, none⟩ u) B t u := heap_setCell_here w B 0 u #[v] t (0, 0) h
theorem keeps_fr {B : Nat} {W W' : World} {Z : Nat → Prop} (h : Fr W W' Z) (hz : ∀ k, Z k → IsC W k) : KeepsFrom B W W' :=
  ⟨h.size, fun k o _ hk ho => by
    rw [h.block k (Array.getElem?_eq_some_iff.1 hk).1 (fun hZ => by
      obtain ⟨o', h1, h2⟩ := hz k hZ
      rw [hk] at h1; cases h1; rw [ho] at h2; cases h2)]
    exact hk⟩
theorem bx_isc {w : World} {B : Nat} {t : TypeId} {v : Value} (h : Boxed w B t v) : IsC w B := ⟨_, h, rfl⟩
/-- The boxes of the call, all apart from the tree. -/
structure RgS (base o : Nat) (cc : Int) (w : World) (tb b6 b7 b11 : Nat) (v : Value) (F : List It) (V : World) (d : Kd) : Prop where
  tc : TC base o cc V tb d
  x6 : Boxed V b6 4 (.bool false)
  x7 : Boxed V b7 24 (.pointer (some ⟨tb, 0, none⟩))
  x11 : Boxed V b11 29 v
  pv : PairsV V v F
  vc : ∀ k, v.ownBlock = some k → IsC V k ∧ ¬ TX tb d k
  n6 : ¬ TX tb d b6
  n7 : ¬ TX tb d b7
  n11 : ¬ TX tb d b11
  fr : Fr w V (fun k => base ≤ k)
theorem RgS.q {base o : Nat} {cc : Int} {w V V' : World} {tb b6 b7 b11 : Nat} {v : Value} {F : List It} {d : Kd} (h : RgS base o cc w tb b6 b7 b11 v F V d) (hf : Fr V V' (fun _ => False)) : RgS base o cc w tb b6 b7 b11 v F V' d :=
  ⟨h.tc.fr hf (fun _ _ h => h), bx_frz h.x6 hf (fun h => h), bx_frz h.x7 hf (fun h => h), bx_frz h.x11 hf (fun h => h), h.pv.fr hf, fun k hk => ⟨(h.vc k hk).1.fr hf (fun h => h), (h.vc k hk).2⟩, h.n6, h.n7, h.n11, h.fr.two (hf.mono (fun _ _ h => h.elim))⟩
/-- A call that changes the tree. -/
theorem RgS.step {base o : Nat} {cc cc' : Int} {w V V' : World} {tb b6 b7 b11 : Nat} {v : Value} {F : List It} {d d' : Kd} (h : RgS base o cc w tb b6 b7 b11 v F V d) (h1 : TC base o cc' V' tb d') (hX : ∀ k, d'.X k → d.X k ∨ V.heap.size ≤ k) (hf : Fr V V' (fun k => k = tb ∨ d.Y k)) : RgS base o cc' w tb b6 b7 b11 v F V' d' := by
  have hZ : ∀ k, (k = tb ∨ d.Y k) → TX tb d k := fun k hk => hk.imp id (h.tc.yx k)
  have hn : ∀ k, k < V.heap.size → ¬ TX tb d k → ¬ TX tb d' k := fun k hk hx h' => by
    rcases h' with h' | h'
    · exact hx (.inl h')
    · rcases hX k h' with h2 | h2
      · exact hx (.inr h2)
      · omega
  have hvl : ∀ k, v.ownBlock = some k → k < V.heap.size := fun k hk => by
    obtain ⟨o, h1, _⟩ := (h.vc k hk).1
    exact (Array.getElem?_eq_some_iff.1 h1).1
  exact ⟨h1, bx_frz h.x6 hf (fun e => h.n6 (hZ _ e)), bx_frz h.x7 hf (fun e => h.n7 (hZ _ e)), bx_frz h.x11 hf (fun e => h.n11 (hZ _ e)), h.pv.frz hf (fun k hk e => (h.vc k hk).2 (hZ _ e)), fun k hk => ⟨(h.vc k hk).1.fr hf (fun e => (h.vc k hk).2 (hZ _ e)), hn k (hvl k hk) (h.vc k hk).2⟩, hn _ h.x6.lt h.n6, hn _ h.x7.lt h.n7, hn _ h.x11.lt h.n11, h.fr.two (hf.mono (fun k _ e => h.tc.1.base k (hZ _ e)))⟩
/-- While the tree is changed within the walk. -/
def RgM (base o : Nat) (cc : Int) (w : World) (tb b6 b7 b11 b13 : Nat) (v : Value) (F : List It) (X0 : Nat → Prop) (pre : List It) (W : World) : Prop := ∃ d, RgS base o cc w tb b6 b7 b11 v F W d ∧ Boxed W b13 3 (.int .i64 (pre.length : Int)) ∧ ¬ TX tb d b13 ∧ (∀ k, d.Y k → ¬ X0 k) ∧ (∀ k, X0 k → k < W.heap.size) ∧ d.F.length ≤ 1048576 + pre.length ∧ (pre <+: F → ∀ x ∈ F.drop pre.length, ∃ u, (⟨x.key, u⟩ : It) ∈ d.F)
theorem RgS.z {base o : Nat} {cc : Int} {w V V' : World} {tb b6 b7 b11 : Nat} {v : Value} {F : List It} {d : Kd} {Z : Nat → Prop} (h : RgS base o cc w tb b6 b7 b11 v F V d) (hf : Fr V V' Z) (hz : ∀ k, Z k → ¬ TX tb d k ∧ k ≠ b6 ∧ k ≠ b7 ∧ k ≠ b11 ∧ ¬ v.ownBlock = some k ∧ base ≤ k) : RgS base o cc w tb b6 b7 b11 v F V' d :=
  ⟨h.tc.fr hf (fun k hk e => (hz k e).1 hk), bx_frz h.x6 hf (fun e => (hz _ e).2.1 rfl), bx_frz h.x7 hf (fun e => (hz _ e).2.2.1 rfl), bx_frz h.x11 hf (fun e => (hz _ e).2.2.2.1 rfl), h.pv.frz hf (fun k hk e => (hz k e).2.2.2.2.1 hk), fun k hk => ⟨(h.vc k hk).1.fr hf (fun e => (hz k e).2.2.2.2.1 hk), (h.vc k hk).2⟩, h.n6, h.n7, h.n11, h.fr.two (hf.mono (fun k _ e => (hz k e).2.2.2.2.2))⟩
theorem RgS.above {base o : Nat} {cc : Int} {w V : World} {tb b6 b7 b11 : Nat} {v : Value} {F : List It} {d : Kd} (h : RgS base o cc w tb b6 b7 b11 v F V d) (hb : base ≤ w.heap.size) (k : Nat) (hk : V.heap.size ≤ k) : ¬ TX tb d k ∧ k ≠ b6 ∧ k ≠ b7 ∧ k ≠ b11 ∧ ¬ v.ownBlock = some k ∧ base ≤ k :=
  ⟨fun e => by have := h.tc.1.lt k e; omega, fun e => by have := h.x6.lt; omega, fun e => by have := h.x7.lt; omega, fun e => by have := h.x11.lt; omega, fun e => by
    obtain ⟨o, h1, _⟩ := (h.vc k e).1
    have := (Array.getElem?_eq_some_iff.1 h1).1
    omega, by have := h.fr.size; omega⟩
theorem ba_ne {s : ByteArray} (h : s ≠ ⟨#[]⟩) : s.data.toList ≠ [] := fun e => h (by
  cases s with | mk d => cases d with | mk l => simp at e; subst e; rfl)
theorem bl_inj {a b : ByteArray} (h : a.toList = b.toList) : a = b := by
  rw [ByteArray.toList_eq, ByteArray.toList_eq] at h
  cases a; cases b
  simp only at h
  rw [Array.toList_inj.1 h]
theorem rng_le (a b : ByteArray) (F : List It) : (rng a b F).length ≤ F.length := by unfold rng; exact List.length_filter_le _ _
/-- What Range leaves of a tree of cells. -/
def RngC (base o : Nat) (cur : Int) (w : World) (tb : Nat) (d : Kd) (fr to : ByteArray) (e : Ending) (w' : World) : Prop := ∃ R A B h lo : Nat, e = .returned (.func (.func 27) #[] #[.pointer (some ⟨R, 0, none⟩), .pointer (some ⟨A, 0, none⟩), .pointer (some ⟨B, 0, none⟩)]) ∧ TC base o (cur + 1) w' tb d.old ∧ Sub o (cur + 1) h lo w' d.old ∧ w'.heap[R]? = some (.cells #[.pointer (some ⟨d.old.g, 0, none⟩)] 58 (0, 0)) ∧ w'.heap[A]? = some (.cells #[.string fr] 9 (0, 0)) ∧ w'.heap[B]? = some (.cells #[.string to] 9 (0, 0)) ∧ Fr w w' (fun k => k = tb)
theorem TC.range {base o : Nat} {cur : Int} {w : World} {tb : Nat} {d : Kd} (h : TC base o cur w tb d) (fr to : ByteArray) (hc0 : 0 ≤ cur) (hc1 : cur ≤ 4611686018427387904) : Calls Try.prog 18 #[.pointer (some ⟨tb, 0, none⟩), .string fr, .string to] w (RngC base o cur w tb d fr to) := by
  have h0 := h
  obtain ⟨⟨h', ht, h1, h2⟩, hc⟩ := h
  refine (range_any ht fr to hc0 hc1).mono ?_
  rintro e w' ⟨R, A, B, rfl, q1, r1, r2, r3, _, _, _, q3⟩
  refine ⟨R, A, B, _, _, rfl, ⟨⟨h', q1, h1, h2⟩, fun k hk => ?_⟩, q1.sub, r1, r2, r3, q3⟩
  rcases hk with rfl | hk
  · exact ⟨_, q1.box.box, rfl⟩
  · exact (hc k (.inr hk)).fr q3 (fun e => ht.out (by rw [← e]; exact hk))
theorem pref_at {pre F : List It} {x : It} (h : pre ++ [x] <+: F) : F[pre.length]? = some x := by
  obtain ⟨t, rfl⟩ := h
  simp
theorem pref_drop {pre F : List It} {x z : It} (hs : Srt F) (h : pre ++ [x] <+: F) (hz : z ∈ F.drop (pre ++ [x]).length) : z ∈ F.drop pre.length ∧ z.key ≠ x.key := by
  obtain ⟨t, rfl⟩ := h
  rw [List.drop_left] at hz
  refine ⟨by rw [List.append_assoc, List.drop_left]; exact List.mem_append_right _ hz, fun e => ?_⟩
  have h1 := (hs.app).2.2 x (by simp) z hz
  rw [e] at h1
  exact absurd h1 (by rw [kc_self]; omega)
theorem own_off {A B : World} {row : Option Nat} {n : Nat} (hrw : ∀ r, row = some r → n ≤ r ∧ ∃ o : Obj, A.heap[r]? = some o ∧ o.isCells = false) : ∀ k, IsC A k → ¬ row = some k := fun k ⟨o, h1, h2⟩ e => by
  obtain ⟨_, o', ho', hc⟩ := hrw k e
  rw [h1] at ho'; cases ho'; rw [h2] at hc; cases hc
theorem rgm_own {base o : Nat} {cc : Int} {w : World} {tb b6 b7 b11 b13 : Nat} {v : Value} {F : List It} {X0 : Nat → Prop} {n : Nat} (hn : base ≤ n) : OwnFrom n (RgM base o cc w tb b6 b7 b11 b13 v F X0) := by
  rintro pre A B row ⟨d, h, h13, n13, hY, hX, hl, hp⟩ hg hrw
  have f := Fr.grown hg
  have ho := own_off (B := B) hrw
  exact ⟨d, ⟨h.tc.fr f (fun k hk => ho k (h.tc.2 k hk)), bx_frz h.x6 f (ho _ (bx_isc h.x6)), bx_frz h.x7 f (ho _ (bx_isc h.x7)), bx_frz h.x11 f (ho _ (bx_isc h.x11)), h.pv.frz f (fun k hk => ho k (h.vc k hk).1), fun k hk => ⟨(h.vc k hk).1.fr f (ho k (h.vc k hk).1), (h.vc k hk).2⟩, h.n6, h.n7, h.n11, h.fr.two (f.mono (fun k _ e => by have := (hrw k e).1; omega))⟩, bx_frz h13 f (ho _ (bx_isc h13)), n13, hY, fun k hk => Nat.lt_of_lt_of_le (hX k hk) f.size, hl, hp⟩
/-- The next round: the key told is cut, another put. -/
theorem rgm_step {base o : Nat} {cc : Int} {w W W1 W2 W3 : World} {tb b6 b7 b11 b13 : Nat} {v : Value} {F pre : List It} {x : It} {X0 : Nat → Prop} {d d1 d2 : Kd} {n : Nat} {s : ByteArray} (hsr : Srt F) (hbw : base ≤ w.heap.size) (h13n : b13 ≠ b6 ∧ b13 ≠ b7 ∧ b13 ≠ b11 ∧ ¬ v.ownBlock = some b13 ∧ base ≤ b13) (hx13 : ¬ X0 b13) (hxt : ¬ X0 tb)
    (hs : RgS base o cc w tb b6 b7 b11 v F W d) (h13 : Boxed W b13 3 (.int .i64 (pre.length : Int))) (n13 : ¬ TX tb d b13) (hY : ∀ k, d.Y k → ¬ X0 k) (hX : ∀ k, X0 k → k < W.heap.size) (hl : d.F.length ≤ 1048576 + pre.length) (hp : pre <+: F → ∀ x ∈ F.drop pre.length, ∃ u, (⟨x.key, u⟩ : It) ∈ d.F)
    (c1 : TCQ base o cc W tb d W1 d1) (m1 : ∀ z, z ∈ d1.F ↔ z ∈ d.F ∧ z.key ≠ x.key) (l1 : d1.F.length ≤ d.F.length) (hW2 : W2 = W1.setCell ⟨b13, 0, none⟩ (.int .i64 ((n : Nat) : Int))) (hnn : n = (pre ++ [x]).length)
    (c2 : TCQ base o cc W2 tb d1 W3 d2) (m2 : ∀ z, z ∈ d2.F ↔ (z ∈ d1.F ∧ z.key ≠ s) ∨ z = ⟨s, 2⟩) (l2 : d2.F.length ≤ d1.F.length + 1) (B : Nat) : RgM base o cc w tb b6 b7 b11 b13 v F X0 (pre ++ [x]) W3 ∧ KeepsFrom B W W3 ∧ KX X0 W W3 ∧ Boxed W3 b13 3 (.int .i64 ((n : Nat) : Int)) := by
  obtain ⟨p1, p2, p3, p4⟩ := c1
  obtain ⟨q1, q2, q3, q4⟩ := c2
  have s1 := hs.step p1 p2 p4
  have hz1 : ∀ k, (k = tb ∨ d.Y k) → TX tb d k := fun k hk => hk.imp id (hs.tc.yx k)
  have y1 := bx_frz h13 p4 (fun e => n13 (hz1 _ e))
  have n1 : ¬ TX tb d1 b13 := fun h => by
    rcases h with h | h
    · exact n13 (.inl h)
    · rcases p2 _ h with h | h
      · exact n13 (.inr h)
      · have := h13.lt; omega
  have g2 : Fr W1 W2 (fun k => k = b13) := by rw [hW2]; exact Fr.setCell _ _ _
  have y2 : Boxed W2 b13 3 (.int .i64 ((n : Nat) : Int)) := by rw [hW2]; exact bx_put y1 _
  have s2 := s1.z g2 (fun k hk => by rw [hk]; exact ⟨n1, h13n⟩)
  have hz2 : ∀ k, (k = tb ∨ d1.Y k) → TX tb d1 k := fun k hk => hk.imp id (s2.tc.yx k)
  have s3 := s2.step q1 q2 q4
  have y3 := bx_frz y2 q4 (fun e => n1 (hz2 _ e))
  have n3 : ¬ TX tb d2 b13 := fun h => by
    rcases h with h | h
    · exact n1 (.inl h)
    · rcases q2 _ h with h | h
      · exact n1 (.inr h)
      · have := y2.lt; omega
  have k1 := p4.size
  have k2 := g2.size
  have k3 := q4.size
  have hY1 : ∀ k, d1.Y k → ¬ X0 k := fun k hk hx => by
    rcases p3 k hk with h | h
    · exact hY k h hx
    · have := hX k hx; omega
  have hY2 : ∀ k, d2.Y k → ¬ X0 k := fun k hk hx => by
    rcases q3 k hk with h | h
    · exact hY1 k h hx
    · have := hX k hx; omega
  have kx1 : KX X0 W W1 := p4.mono (fun k _ h hx => by
    rcases h with h | h
    · exact hxt (by rw [← h]; exact hx)
    · exact hY k h hx)
  have kx2 : KX X0 W1 W2 := g2.mono (fun k _ h hx => hx13 (by rw [← h]; exact hx))
  have kx3 : KX X0 W2 W3 := q4.mono (fun k _ h hx => by
    rcases h with h | h
    · exact hxt (by rw [← h]; exact hx)
    · exact hY1 k h hx)
  have kf1 : KeepsFrom B W W1 := keeps_fr p4 (fun k hk => hs.tc.2 k (hz1 k hk))
  have kf2 : KeepsFrom B W1 W2 := keeps_fr g2 (fun k hk => by rw [hk]; exact bx_isc y1)
  have kf3 : KeepsFrom B W2 W3 := keeps_fr q4 (fun k hk => s2.tc.2 k (hz2 k hk))
  refine ⟨⟨d2, s3, by rw [← hnn]; exact y3, n3, hY2, fun k hk => by have := hX k hk; omega, by rw [List.length_append]; simp; omega, fun h z hz => ?_⟩, kf1.trans (kf2.trans kf3), kx1.trans (kx2.trans kx3), y3⟩
  obtain ⟨z1, z2⟩ := pref_drop hsr h hz
  obtain ⟨u, hu⟩ := hp ((List.prefix_append pre [x]).trans h) z z1
  by_cases he : z.key = s
  · exact ⟨2, (m2 _).2 (.inr (by rw [he]))⟩
  · exact ⟨u, (m2 _).2 (.inl ⟨(m1 _).2 ⟨hu, z2⟩, he⟩)⟩
/-- How the walk is left. -/
def RgX (base o : Nat) (cc : Int) (w : World) (tb b6 b7 b11 b13 : Nat) (v : Value) (F : List It) (X0 : Nat → Prop) (c : Code) (pre : List It) (W : World) : Prop := (c = .exit 4 ∧ RgM base o cc w tb b6 b7 b11 b13 v F X0 pre W ∧ pre.length = 5) ∨ (c = .ret ∧ ¬ pre <+: F)
/-- While keys are put in. -/
def RgI (base o : Nat) (w : World) (tb b6 b7 : Nat) (i : Nat) (V : World) : Prop := ∃ d, TC base o 0 V tb d ∧ Boxed V b6 4 (.bool false) ∧ Boxed V b7 24 (.pointer (some ⟨tb, 0, none⟩)) ∧ ¬ TX tb d b6 ∧ ¬ TX tb d b7 ∧ d.F.length ≤ i ∧ Fr w V (fun k => base ≤ k) ∧ (∀ y ∈ d.F, y.key.size ≤ 1048576)
attribute [local go_sem] Oper.semAt_some
set_option maxHeartbeats 16000000 in
theorem ranges_walk {w : World} (oa : Int) (aa : Option Addr) (n c : Nat) (K : List ByteArray) (hK : K.length = n) (hn : n ≤ 1048576) (hz : ∀ k ∈ K, k.size ≤ 1048576) (hI : StrsIn (fun k => k < w.heap.size) w aa K) (at_ : ByteArray) : Calls Try.prog 5 #[.int .i64 oa, .slice aa n c, .string at_] w fun e w' => e = .returned (.bool true) ∧ Fr w w' (fun _ => False) := by
  obtain ⟨base, hb⟩ : ∃ base, base = w.heap.size := ⟨_, rfl⟩
  rw [← hb] at hI
  obtain ⟨b6, hb6⟩ : ∃ b6, b6 = w.heap.size := ⟨_, rfl⟩
  obtain ⟨w0, hw0⟩ : ∃ w0, w0 = w.alloc (.cells #[.bool false] 4) := ⟨_, rfl⟩
  have f0 : Fr w w0 (fun _ => False) := by rw [hw0]; exact Fr.alloc w _ _
  have B6 : Boxed w0 b6 4 (.bool false) := by rw [hw0, hb6]; exact Boxed.new w 4 _
  have HB := hide hb
  have HB6 := hide hb6
  have HK := hide hK
  have HI := hide hI
  have HA := hide (awake_any w0)
  have HF0 := hide f0
  have H0 := hide hw0
  have HX6 := hide B6
  clear hb hK hI hb6 hw0 f0 B6
  refine (callsIn_wide (n := 3)).1 ?_
  refine callsIn_of_wp_marks Try.func5 rfl trivial ?_ rfl
  simp only [Try.ntmps5, List.size_toArray, List.length_cons, List.length_nil, Nat.reduceAdd, Nat.reduceSub, Array.replicate_succ, Array.replicate_zero, List.push_toArray, List.append_toArray, List.nil_append, List.cons_append]
  refine wpIn_mono ?_ leaves_post
  refine wpIn_wide.2 ?_
  go_wp2_with (rw [← H0.out, ← HB6.out]; clear H0)
  refine HA.out.mono ?_
  rintro en w1 ⟨rfl, f1⟩
  have HN1 := hide (new_ts (w := w1) oa)
  have HF1 := hide (HF0.out.two f1)
  have hx6 := bx_frz HX6.out f1 (fun h => h)
  have HX6 := hide hx6
  have HLT6 := hide hx6.lt
  clear HA f1 HF0 hx6
  go_wp2_with fail
  refine HN1.out.mono ?_
  rintro en w2 ⟨f2, h1⟩
  have HF2 := hide (HF1.out.two f2)
  have hx6 := bx_frz HX6.out f2 (fun h => h)
  have HX6 := hide hx6
  have HS01 := hide HF1.out.size
  have HL6 : Hid (b6 < w1.heap.size) := hide (by have := HB6.out; have h2 := HF1.out.size; exact HLT6.out)
  clear HN1 f2 hx6
  rcases h1 with ⟨_, rfl⟩ | ⟨o, tb, d1, _, _, ho64, rfl, ht1, hF1⟩
  · obtain ⟨b7, hb7⟩ : ∃ b7, b7 = w2.heap.size := ⟨_, rfl⟩
    obtain ⟨wA, hwA⟩ : ∃ wA, wA = w2.alloc (.cells #[.pointer none] 24) := ⟨_, rfl⟩
    have fA : Fr w2 wA (fun _ => False) := by rw [hwA]; exact Fr.alloc w2 _ _
    have BA : Boxed wA b7 24 (.pointer none) := by rw [hwA, hb7]; exact Boxed.new w2 24 _
    have xA := BA.cell
    have zA := BA.frozen
    obtain ⟨w3, hw3⟩ : ∃ w3, w3 = wA.setCell ⟨b7, 0, none⟩ (.pointer none) := ⟨_, rfl⟩
    have f3 : Fr w2 w3 (fun _ => False) := by
      rw [hw3]
      exact (fA.trans (Fr.setCell wA ⟨b7, 0, none⟩ _)).mono (fun k hk h => by
        rcases h with h | h
        · exact h
        · have h : k = b7 := h
          omega)
    have B7 : Boxed w3 b7 24 (.pointer none) := by rw [hw3]; exact bx_put BA _
    have x7 := B7.cell
    have hx6 := bx_frz HX6.out f3 (fun h => h)
    have z6 := hx6.cell
    have zf := hx6.frozen
    obtain ⟨w4, hw4⟩ : ∃ w4, w4 = w3.setCell ⟨b6, 0, none⟩ (.bool true) := ⟨_, rfl⟩
    have y6 : Boxed w4 b6 4 (.bool true) := by rw [hw4]; exact bx_put hx6 _
    have f4 : Fr w3 w4 (fun k => k = b6) := by rw [hw4]; exact Fr.setCell _ _ _
    have HRES : Hid (Boxed w4 b6 4 (.bool true) ∧ Fr w w4 (fun _ => False)) := hide ⟨y6, (((HF2.out.two f3).trans f4).mono (fun k hk h => by
      rcases h with h | h
      · exact h
      · have := HB6.out; omega))⟩
    have H3 := hide hw3
    have HWA := hide hwA
    have HB7 := hide hb7
    have H4 := hide hw4
    clear hb7 hw3 f3 B7 hx6 hw4 y6 f4 hwA fA BA
    go_wp2_with (first | (rw [← HWA.out, ← HB7.out]; clear HWA) | (rw [← H3.out]; clear H3) | (rw [← H4.out]; clear H4))
    exact ⟨_, results_bc rfl _ _ b6 HRES.out.1 rfl, rfl, HRES.out.2⟩
  obtain ⟨b7, hb7⟩ : ∃ b7, b7 = w2.heap.size := ⟨_, rfl⟩
  obtain ⟨wA, hwA⟩ : ∃ wA, wA = w2.alloc (.cells #[.pointer none] 24) := ⟨_, rfl⟩
  have fA : Fr w2 wA (fun _ => False) := by rw [hwA]; exact Fr.alloc w2 _ _
  have BA : Boxed wA b7 24 (.pointer none) := by rw [hwA, hb7]; exact Boxed.new w2 24 _
  have xA := BA.cell
  have zA := BA.frozen
  obtain ⟨w3, hw3⟩ : ∃ w3, w3 = wA.setCell ⟨b7, 0, none⟩ (.pointer (some ⟨tb, 0, none⟩)) := ⟨_, rfl⟩
  have f3 : Fr w2 w3 (fun _ => False) := by
    rw [hw3]
    exact (fA.trans (Fr.setCell wA ⟨b7, 0, none⟩ _)).mono (fun k hk h => by
      rcases h with h | h
      · exact h
      · have h : k = b7 := h
        omega)
  have B7 : Boxed w3 b7 24 (.pointer (some ⟨tb, 0, none⟩)) := by rw [hw3]; exact bx_put BA _
  have x7 := B7.cell
  have htc := ht1.tc
  have hbb : ∀ k, TX tb (d1.shr (IsC w2)) k → w1.heap.size ≤ k ∧ k < w2.heap.size := fun k hk => ⟨htc.1.base k hk, htc.1.lt k hk⟩
  have HST : Hid (RgI base o w tb b6 b7 0 w3) := hide ⟨_, TC.fr ⟨htc.1.mono (by have := HB.out; have := HS01.out; omega), htc.2⟩ f3 (fun _ _ h => h), bx_frz HX6.out f3 (fun h => h), B7, fun h => by have := hbb b6 h; have h6 := HB6.out; have := HS01.out; have := HL6.out; omega, fun h => by have := hbb b7 h; omega, by rw [show (d1.shr (IsC w2)).F = d1.F from rfl, hF1]; exact Nat.le_refl _, (HF2.out.two f3).mono (fun _ _ h => h.elim), fun y hy => by rw [show (d1.shr (IsC w2)).F = d1.F from rfl, hF1] at hy; cases hy⟩
  have H3 := hide hw3
  have HWA := hide hwA
  have HB7 := hide hb7
  clear hb7 hw3 f3 B7 hwA fA BA htc hbb ht1 hF1 HF1 HF2 HX6 HS01
  go_wp2_with (first | (rw [← HWA.out, ← HB7.out]; clear HWA) | (rw [← H3.out]; clear H3))
  go_loopw [28] (fun vi V => ∃ i : Nat, i ≤ n ∧ vi = .int .i64 (i : Int) ∧ RgI base o w tb b6 b7 i V) (fun vi _ => n - (intOf vi).toNat)
  case atStart => exact ⟨0, Nat.zero_le _, rfl, HST.out⟩
  case round =>
    obtain ⟨i, hin, rfl, hA⟩ := hrel
    rename World => V
    have HAI := hide hA
    clear hA HST xA zA
    by_cases hlt : i < n
    · obtain ⟨k1, hk1⟩ : ∃ k, K[i]? = some k := ⟨_, List.getElem?_eq_getElem (by rw [HK.out]; exact hlt)⟩
      obtain ⟨d, ht, hb6, hb7, hn6, hn7, hdl, hfr, hks⟩ := HAI.out
      obtain ⟨g, off, rfl, _, cv1⟩ := HI.out.fr hfr (fun k h1 h2 => (by omega)) i k1 hk1
      have y7 := hb7.cell
      have HP := hide (ht.put (by have := hfr.size; rw [HB.out]; exact this) k1 1 (by omega))
      have HT := hide ht
      have HQ6 := hide hb6
      have HQ7 := hide hb7
      have HNN := hide (And.intro hn6 hn7)
      have HDL := hide hdl
      have HFR := hide hfr
      have HKS := hide hks
      have hk1z : k1.size ≤ 1048576 := hz k1 (List.mem_of_getElem? hk1)
      clear ht hb6 hb7 hn6 hn7 hdl hfr hk1 hks HAI x7
      go_wp2_with fail
      refine HP.out.mono ?_
      rintro en V2 ⟨b1, e1, rfl, ⟨q1, q2, q3, q4⟩, hmm, hll⟩
      have hZ : ∀ k, (k = tb ∨ d.Y k) → TX tb d k := fun k hk => hk.imp id (HT.out.yx k)
      have hn : ∀ k, k < V.heap.size → ¬ TX tb d k → ¬ TX tb e1 k := fun k hk hx h' => by
        rcases h' with h' | h'
        · exact hx (.inl h')
        · rcases q2 k h' with h2 | h2
          · exact hx (.inr h2)
          · omega
      have HREL : Hid (RgI base o w tb b6 b7 (i + 1) V2) := hide ⟨e1, q1, bx_frz HQ6.out q4 (fun e => HNN.out.1 (hZ _ e)), bx_frz HQ7.out q4 (fun e => HNN.out.2 (hZ _ e)), hn _ HQ6.out.lt HNN.out.1, hn _ HQ7.out.lt HNN.out.2, by have := HDL.out; omega, HFR.out.two (q4.mono (fun k _ e => HT.out.1.base k (hZ _ e))), fun y hy => by
        rcases (hmm y).1 hy with ⟨h1, _⟩ | h1
        · exact HKS.out y h1
        · rw [h1]; exact hk1z⟩
      clear HKS hk1z HP q1 q2 q3 q4 hmm hll hZ hn HT HQ6 HQ7 HNN HDL HFR y7 cv1
      go_wp2
      go_roundw
      case rel => exact ⟨i + 1, by omega, by go_num, HREL.out⟩
      case measure => simp [intOf]; omega
    · have hge : ¬ ((i : Int) < (n : Int)) := by omega
      obtain ⟨d, ht, hb6, hb7, hn6, hn7, hdl, hfr, hks⟩ := HAI.out
      have y7 := hb7.cell
      obtain ⟨F, hF⟩ : ∃ F, F = d.F := ⟨_, rfl⟩
      have hFl : F.length ≤ 1048576 := by rw [hF]; omega
      have HLI := hide (ht.listed ⟨#[]⟩ ⟨#[]⟩ (by omega) (by omega) (by omega))
      have HT := hide ht
      have HQ6 := hide hb6
      have HQ7 := hide hb7
      have HNN := hide (And.intro hn6 hn7)
      have HFR := hide hfr
      have HF := hide hF
      have HDF0 : Hid (d.F = F) := hide hF.symm
      have HFL := hide hFl
      have HSR := hide ht.1.srt
      have HKS := hide hks
      clear ht hb6 hb7 hn6 hn7 hdl hfr hF hks HAI x7 hFl
      go_wp2_with fail
      refine HLI.out.mono ?_
      rintro en V1 ⟨v, rfl, q1, q2, q3, q4⟩
      rw [rng_all, ← HF.out] at q2
      obtain ⟨b11, hb11⟩ : ∃ b11, b11 = V1.heap.size := ⟨_, rfl⟩
      obtain ⟨VA, hVA⟩ : ∃ VA, VA = V1.alloc (.cells #[.slice none 0 0] 29) := ⟨_, rfl⟩
      have fA : Fr V1 VA (fun _ => False) := by rw [hVA]; exact Fr.alloc V1 _ _
      have BA : Boxed VA b11 29 (.slice none 0 0) := by rw [hVA, hb11]; exact Boxed.new V1 29 _
      obtain ⟨V2, hV2⟩ : ∃ V2, V2 = VA.setCell ⟨b11, 0, none⟩ v := ⟨_, rfl⟩
      have f2 : Fr V1 V2 (fun _ => False) := by
        rw [hV2]
        exact (fA.trans (Fr.setCell VA ⟨b11, 0, none⟩ _)).mono (fun k hk h => by
          rcases h with h | h
          · exact h
          · have h : k = b11 := h
            omega)
      have B11 : Boxed V2 b11 29 v := by rw [hV2]; exact bx_put BA _
      have htb : ∀ k, k = tb → TX tb d k := fun k e => .inl e
      have hvc : ∀ k, v.ownBlock = some k → IsC V1 k ∧ ¬ TX tb d.old k := fun k hk => by
        refine ⟨?_, fun h => by have h1 := q3 k hk; have h2 := HT.out.1.lt k h; omega⟩
        rcases q2.2 with ⟨e1, _⟩ | ⟨g, cap, cr, e1, _, hg, _⟩
        · rw [e1] at hk; cases hk
        · rw [e1] at hk; cases hk; exact ⟨_, hg, rfl⟩
      have HRS : Hid (RgS base o 1 w tb b6 b7 b11 v F V2 d.old) := hide ⟨q1.fr f2 (fun _ _ h => h), bx_frz (bx_frz HQ6.out q4 (fun e => HNN.out.1 (htb _ e))) f2 (fun h => h), bx_frz (bx_frz HQ7.out q4 (fun e => HNN.out.2 (htb _ e))) f2 (fun h => h), B11, (PairsV.of q2 rfl).fr f2, fun k hk => ⟨(hvc k hk).1.fr f2 (fun h => h), (hvc k hk).2⟩, HNN.out.1, HNN.out.2, fun h => by have h2 := HT.out.1.lt b11 h; have := q4.size; omega, (HFR.out.two (q4.mono (fun k _ e => by rw [e]; exact HT.out.1.base tb (.inl rfl)))).two (f2.mono (fun _ _ h => h.elim))⟩
      obtain ⟨av, cv, hav, hits⟩ := HRS.out.pv
      subst hav
      obtain ⟨nF, hnF⟩ : ∃ nF, F.length = nF := ⟨_, rfl⟩
      rw [hnF] at HRS hV2 ⊢
      have HITS := hide hits
      have HNF := hide hnF
      have hnFb : nF ≤ 1048576 := by have := HFL.out; omega
      have xA := BA.cell
      have zA := BA.frozen
      have x11 := HRS.out.x11.cell
      have HVA := hide hVA
      have HB11 := hide hb11
      have HV2 := hide hV2
      clear HLI q1 q2 q3 q4 hb11 hVA fA BA hV2 f2 B11 htb hvc hits hnF HT HQ6 HQ7 HNN HFR y7
      go_wp2_with (first | (rw [← HVA.out, ← HB11.out]; clear HVA) | (rw [← HV2.out]; clear HV2))
      clear xA zA
      have hd0F : d.old.F = F := HF.out.symm
      obtain ⟨dd, hdd⟩ : ∃ dd, dd = d.old := ⟨_, rfl⟩
      rw [← hdd] at HRS hd0F
      have HDF := hide hd0F
      have HDY : Hid (∀ k, ¬ dd.Y k) := hide (fun k hk => by rw [hdd] at hk; exact hk)
      clear hdd hd0F HF
      have HW0 : Hid (Fr V2 V2 (fun _ => False)) := hide (Fr.refl _ _)
      go_loopw [12] (fun vi wr => ∃ ii : Nat, 1 ≤ ii ∧ vi = .int .i64 (ii : Int) ∧ ii ≤ nF + 1 ∧ Fr V2 wr (fun _ => False)) (fun vi _ => nF + 1 - (intOf vi).toNat)
      case atStart => exact ⟨1, Nat.le_refl _, rfl, by omega, Fr.refl _ _⟩
      case round =>
        obtain ⟨ii, hi1, rfl, hi2, hf⟩ := hrel
        rename World => V
        have HRV := hide (HRS.out.q hf)
        have HFV := hide hf
        clear hf x11
        have x11 := HRV.out.x11.cell
        by_cases hlt : ii < nF
        · obtain ⟨⟨yk, yv⟩, hy⟩ : ∃ x, F[ii]? = some x := ⟨_, List.getElem?_eq_getElem (by rw [HNF.out]; exact hlt)⟩
          obtain ⟨j, hj⟩ : ∃ j, ii = j + 1 := ⟨ii - 1, by omega⟩
          obtain ⟨⟨xk, xv⟩, hx⟩ : ∃ x, F[j]? = some x := ⟨_, List.getElem?_eq_getElem (by rw [HNF.out]; omega)⟩
          have hij : (ii : Int) - 1 = (j : Int) := by omega
          have hjn : j < nF := by omega
          obtain ⟨g, rfl, c1, _⟩ := HITS.out.fr HFV.out j _ hx
          obtain ⟨g', e', c2, _⟩ := HITS.out.fr HFV.out ii _ hy
          cases e'
          dsimp only at c1 c2
          have hlt2 : kc xk yk < 0 := by
            have hs := HSR.out
            rw [show d.F = F from HDF0.out] at hs
            have h1 := List.pairwise_iff_getElem.1 hs j ii (by rw [HNF.out]; exact hjn) (by rw [HNF.out]; exact hlt) (by omega)
            rw [(List.getElem?_eq_some_iff.1 hx).2, (List.getElem?_eq_some_iff.1 hy).2] at h1
            exact h1
          have hbl : Op.bytesLess xk.toList yk.toList = true := by rw [ByteArray.toList_eq, ByteArray.toList_eq, bytesLess_kc]; exact decide_eq_true hlt2
          have HJ := hide hj
          clear hx hy hj hlt2
          go_wp2_with fail
          go_quiet (fail)
          go_wp2
          go_roundw
          case rel => exact ⟨ii + 1, by omega, by go_num, by omega, HFV.out.two (Fr.drewN _ _ _)⟩
          case measure => simp [intOf]; omega
        · have hge2 : ¬ ((ii : Int) < (nF : Int)) := by omega
          have y7 := HRV.out.x7.cell
          go_wp2_with fail
          by_cases hat : at_ = ⟨#[]⟩
          · subst hat
            refine wp_region_K (fun z => decide (z < 14)) (fun U : World => U.cell? ⟨b7, 0, none⟩ = some (.pointer (some ⟨tb, 0, none⟩)) ∧ U.cell? ⟨b11, 0, none⟩ = some (.slice av nF cv)) (by kernel_rfl) ?_
            obtain ⟨Vt, hVt⟩ : ∃ Vt, Vt = V.drew := ⟨_, rfl⟩
            have G1 : Fr V Vt (fun _ => False) := by rw [hVt]; exact Fr.drew _ _
            rw [← hVt]
            clear hVt
            have hS : (fun U : World => U.cell? ⟨b7, 0, none⟩ = some (.pointer (some ⟨tb, 0, none⟩)) ∧ U.cell? ⟨b11, 0, none⟩ = some (.slice av nF cv)) Vt := ⟨(HRV.out.q G1).x7.cell, (HRV.out.q G1).x11.cell⟩
            refine wpAnyK_takeTo 0 (some 56) (.string ⟨#[]⟩) [1, 2, 3, 4, 5, 6, 7, 8, 9, 10, 11, 12, 13] rfl rfl (by kernel_rfl) (by kernel_rfl) (by kernel_rfl) (by kernel_rfl) (fun _ _ _ h => h) hS (Or.inl ⟨rfl, fun w1 hw1 => by obtain ⟨q7, q11⟩ := hw1; go_simp⟩) ?_
            simp only [Act.put, List.setIfInBounds_toArray, List.set_cons_zero, List.set_cons_succ]
            refine wpAnyK_takeTo 1 (some 57) (.bool false) [2, 3, 4, 5, 6, 7, 8, 9, 10, 11, 12, 13] rfl rfl (by kernel_rfl) (by kernel_rfl) (by kernel_rfl) (by kernel_rfl) (fun _ _ _ h => h) hS (Or.inl ⟨rfl, fun w1 hw1 => by obtain ⟨q7, q11⟩ := hw1; go_simp⟩) ?_
            simp only [Act.put, List.setIfInBounds_toArray, List.set_cons_zero, List.set_cons_succ]
            refine wpAnyK_takeTo 2 (some 58) (.bool false) [3, 4, 5, 6, 7, 8, 9, 10, 11, 12, 13] rfl rfl (by kernel_rfl) (by kernel_rfl) (by kernel_rfl) (by kernel_rfl) (fun _ _ _ h => h) hS (Or.inl ⟨rfl, fun w1 hw1 => by obtain ⟨q7, q11⟩ := hw1; go_simp⟩) ?_
            simp only [Act.put, List.setIfInBounds_toArray, List.set_cons_zero, List.set_cons_succ]
            refine wpAnyK_takeTo 3 (some 59) (undef) [5, 8, 9, 11, 12, 13] rfl rfl (by kernel_rfl) (by kernel_rfl) (by kernel_rfl) (by kernel_rfl) (fun _ _ _ h => h) hS (Or.inr ⟨rfl, rfl⟩) ?_
            simp only [Act.put, List.setIfInBounds_toArray, List.set_cons_zero, List.set_cons_succ]
            refine wpAnyK_takeTo 4 (some 60) (undef) [5, 8, 9, 11, 12, 13] rfl rfl (by kernel_rfl) (by kernel_rfl) (by kernel_rfl) (by kernel_rfl) (fun _ _ _ h => h) hS (Or.inr ⟨rfl, rfl⟩) ?_
            simp only [Act.put, List.setIfInBounds_toArray, List.set_cons_zero, List.set_cons_succ]
            refine wpAnyK_takeTo 5 (some 61) (undef) [8, 9, 11, 12, 13] rfl rfl (by kernel_rfl) (by kernel_rfl) (by kernel_rfl) (by kernel_rfl) (fun _ _ _ h => h) hS (Or.inr ⟨rfl, rfl⟩) ?_
            simp only [Act.put, List.setIfInBounds_toArray, List.set_cons_zero, List.set_cons_succ]
            refine wpAnyK_takeTo 6 (some 62) (undef) [8, 9, 11, 12, 13] rfl rfl (by kernel_rfl) (by kernel_rfl) (by kernel_rfl) (by kernel_rfl) (fun _ _ _ h => h) hS (Or.inr ⟨rfl, rfl⟩) ?_
            simp only [Act.put, List.setIfInBounds_toArray, List.set_cons_zero, List.set_cons_succ]
            refine wpAnyK_takeTo 7 (some 63) (undef) [8, 9, 11, 12, 13] rfl rfl (by kernel_rfl) (by kernel_rfl) (by kernel_rfl) (by kernel_rfl) (fun _ _ _ h => h) hS (Or.inr ⟨rfl, rfl⟩) ?_
            simp only [Act.put, List.setIfInBounds_toArray, List.set_cons_zero, List.set_cons_succ]
            refine wpAnyK_takeTo 8 (some 64) (undef) [9, 11, 12, 13] rfl rfl (by kernel_rfl) (by kernel_rfl) (by kernel_rfl) (by kernel_rfl) (fun _ _ _ h => h) hS (Or.inr ⟨rfl, rfl⟩) ?_
            simp only [Act.put, List.setIfInBounds_toArray, List.set_cons_zero, List.set_cons_succ]
            refine wpAnyK_takeTo 9 (some 65) (undef) [11, 12, 13] rfl rfl (by kernel_rfl) (by kernel_rfl) (by kernel_rfl) (by kernel_rfl) (fun _ _ _ h => h) hS (Or.inr ⟨rfl, rfl⟩) ?_
            simp only [Act.put, List.setIfInBounds_toArray, List.set_cons_zero, List.set_cons_succ]
            refine wpAnyK_takeTo 10 (some 66) (undef) [11, 12, 13] rfl rfl (by kernel_rfl) (by kernel_rfl) (by kernel_rfl) (by kernel_rfl) (fun _ _ _ h => h) hS (Or.inr ⟨rfl, rfl⟩) ?_
            simp only [Act.put, List.setIfInBounds_toArray, List.set_cons_zero, List.set_cons_succ]
            refine wpAnyK_takeTo 11 (some 67) (undef) [12, 13] rfl rfl (by kernel_rfl) (by kernel_rfl) (by kernel_rfl) (by kernel_rfl) (fun _ _ _ h => h) hS (Or.inr ⟨rfl, rfl⟩) ?_
            simp only [Act.put, List.setIfInBounds_toArray, List.set_cons_zero, List.set_cons_succ]
            refine wpAnyK_takeTo 12 (some 68) (undef) [13] rfl rfl (by kernel_rfl) (by kernel_rfl) (by kernel_rfl) (by kernel_rfl) (fun _ _ _ h => h) hS (Or.inr ⟨rfl, rfl⟩) ?_
            simp only [Act.put, List.setIfInBounds_toArray, List.set_cons_zero, List.set_cons_succ]
            refine wpAnyK_takeTo 13 (some 69) (.bool false) [] rfl rfl (by kernel_rfl) (by kernel_rfl) (by kernel_rfl) (by kernel_rfl) (fun _ _ _ h => h) hS (Or.inl ⟨rfl, fun w1 hw1 => by obtain ⟨q7, q11⟩ := hw1; go_simp⟩) ?_
            simp only [Act.put, List.setIfInBounds_toArray, List.set_cons_zero, List.set_cons_succ]
            refine wpAnyK_done (by kernel_rfl) ?_ _
            have HRT := hide (HRV.out.q G1)
            obtain ⟨cc, hcc⟩ : ∃ cc : Int, cc = 1 := ⟨_, rfl⟩
            have hc1 : 1 ≤ cc ∧ cc ≤ 3 := by omega
            rw [← hcc] at HRT
            obtain ⟨dx, hdx⟩ : ∃ dx, dx = dd := ⟨_, rfl⟩
            rw [← hdx] at HRT
            have HDX : Hid (dx.F = F) := hide (by rw [hdx]; exact HDF.out)
            clear hS G1 HRV HFV HW0 HRS x11 y7 hcc hdx HB11
            obtain ⟨b13, hb13⟩ : ∃ b13, b13 = Vt.heap.size := ⟨_, rfl⟩
            obtain ⟨WA, hWA⟩ : ∃ WA, WA = Vt.alloc (.cells #[.int .i64 0] 3) := ⟨_, rfl⟩
            have fA : Fr Vt WA (fun _ => False) := by rw [hWA]; exact Fr.alloc Vt _ _
            have BA : Boxed WA b13 3 (.int .i64 0) := by rw [hWA, hb13]; exact Boxed.new Vt 3 _
            obtain ⟨W0, hW0⟩ : ∃ W0, W0 = WA.setCell ⟨b13, 0, none⟩ (.int .i64 0) := ⟨_, rfl⟩
            have f0 : Fr Vt W0 (fun _ => False) := by
              rw [hW0]
              exact (fA.trans (Fr.setCell WA ⟨b13, 0, none⟩ _)).mono (fun k hk h => by
                rcases h with h | h
                · exact h
                · have h : k = b13 := h
                  omega)
            have B13 : Boxed W0 b13 3 (.int .i64 0) := by rw [hW0]; exact bx_put BA _
            have hbw : base ≤ w.heap.size := by rw [HB.out]; exact Nat.le_refl _
            have n13 := HRT.out.above hbw b13 (by omega)
            have s5 := HRT.out.q f0
            have HRG := hide (s5.tc.range ⟨#[]⟩ ⟨#[]⟩ (by omega) (by omega))
            have y7 := s5.x7.cell
            have xA := BA.cell
            have zA := BA.frozen
            have HS5 := hide s5
            have H13 := hide B13
            have HNE := hide n13
            have HE13 := hide hb13
            have HWA := hide hWA
            have HW0 := hide hW0
            have HBW := hide hbw
            clear hb13 hWA hW0 fA BA f0 B13 hbw n13 s5 HRT
            go_wp2_with (first | (rw [← HWA.out, ← HE13.out]; clear HWA) | (rw [← HW0.out]; clear HW0))
            refine HRG.out.mono ?_
            rintro en W3 ⟨R, A, B, hh, lo, rfl, t3, hsub, rR, rA, rB, g3⟩
            have s6 := HS5.out.step t3 (fun k hk => .inl hk) (g3.mono (fun k _ h => .inl h))
            have hseq := range_stops hsub t3.1.srt ho64 rR rA rB (3 - 1)
            rw [rng_all, show dx.old.F = F from HDX.out] at hseq
            obtain ⟨X0, hX0⟩ : ∃ X0, X0 = dx.old.X := ⟨_, rfl⟩
            rw [← hX0] at hseq
            have hlx : ∀ k, X0 k → k < W3.heap.size := fun k hk => t3.1.lt k (.inr (by rw [← hX0]; exact hk))
            have HN3 : Hid (¬ X0 b13) := hide (fun h => HNE.out.1 (.inr (by rw [hX0] at h; exact h)))
            have HXT : Hid (¬ X0 tb) := hide (fun h => t3.out (by rw [← hX0]; exact h))
            have hst : RgM base o (cc + 1) w tb b6 b7 b11 b13 (.slice av nF cv) F X0 [] W3 := ⟨dx.old, s6, bx_frz H13.out g3 (fun e => HNE.out.1 (.inl e)), HNE.out.1, fun _ h => h.elim, hlx, by rw [show dx.old.F = F from HDX.out, HNF.out]; exact hnFb, fun _ x hx => ⟨x.val, by rw [show dx.old.F = F from HDX.out]; exact List.mem_of_mem_drop hx⟩⟩
            have HST2 := hide hst
            have hb3 : base ≤ W3.heap.size := by have := s6.fr.size; have := HBW.out; omega
            clear HRG HS5 g3 t3 s6 hsub rR rA rB y7 xA zA hst H13 HX6 HL6 hX0
            go_wp2_with fail
            refine (wpIn_wide (n := 3)).1 ?_
            refine wpIn_rangeFunc_ownG (w0 := W3) rfl (by omega) (gf := 27) (lb := #[.pointer (some ⟨R, 0, none⟩), .pointer (some ⟨A, 0, none⟩), .pointer (some ⟨B, 0, none⟩)]) rfl trivial (enters_of Try.func27 (by kernel_rfl) rfl)
              hseq (fun h k => KX.trans h k) (fun W l o o' hl _ _ _ => (Fr.grown (grownBy_putObj' W l o')).mono (fun k _ e hx => by have e := Option.some.inj e; have := hlx k hx; omega)) (RowKit.Below.refl _ _) (fun _ => rfl)
              (fun pre W => RgM base o (cc + 1) w tb b6 b7 b11 b13 (.slice av nF cv) F X0 pre W ∧ pre.length < 5)
              (RgX base o (cc + 1) w tb b6 b7 b11 b13 (.slice av nF cv) F X0)
              (fun s W W' row hs hg hr => ⟨rgm_own hb3 s W W' row hs.1 hg hr, hs.2⟩)
              (fun c s W W' row hs hg hr => hs.imp (fun h => ⟨h.1, rgm_own hb3 s W W' row h.2.1 hg hr, h.2.2⟩) (fun h => h))
              ⟨HST2.out, by simp⟩
              (fun x => { tmps := #[.int .i64 (o : Int), .slice aa n c, .string ⟨#[]⟩, undef, undef, undef, .pointer (some ⟨b6, 0, none⟩), .pointer (some ⟨b7, 0, none⟩), .int .i64 0, undef, u10, .pointer (some ⟨b11, 0, none⟩), .int .i64 (ii : Int), .pointer (some ⟨b13, 0, none⟩), .string x.key, .bool true, .bool false, .tuple #[.pointer (some ⟨tb, 0, none⟩), .int .i64 0], .int .i64 (o : Int), .tuple #[.pointer (some ⟨tb, 0, none⟩), .int .i64 0], .pointer (some ⟨tb, 0, none⟩), .int .i64 0, .pointer (some ⟨tb, 0, none⟩), .bool false, undef, undef, .slice aa n c, .int .i64 (n : Int), .int .i64 (i : Int), .bool false, u30, u31, u32, u33, u34, u35, .pointer (some ⟨tb, 0, none⟩), .slice av nF cv, .int .i64 (ii : Int), .slice av nF cv, .int .i64 (nF : Int), .bool false, u42, u43, u44, u45, u46, u47, u48, u49, u50, u51, u52, u53, u54, u55, .string ⟨#[]⟩, .bool false, .bool false, undef, undef, undef, undef, undef, undef, undef, undef, undef, undef, .bool false, .pointer (some ⟨tb, 0, none⟩), .func (.func 27) #[] #[.pointer (some ⟨R, 0, none⟩), .pointer (some ⟨A, 0, none⟩), .pointer (some ⟨B, 0, none⟩)], .string x.key, .int .i64 x.val, undef, undef, undef, undef, undef, undef, undef, undef, undef, undef, undef, undef, undef, undef, undef, undef, undef, undef, undef, undef, undef, undef, undef, undef, undef, undef, undef, undef, undef, undef, undef, undef], defers := [] }) ?assign ?body ?done ?stop
            case assign =>
              intro l x W K hK
              gi_wp2
              exact hK
            case body =>
              rintro l pre x W ⟨⟨dw, hS, h13, n13, hY, hX, hl, hp⟩, hl5⟩ hlt
              obtain ⟨pl, hpl⟩ : ∃ pl, pl = pre.length := ⟨_, rfl⟩
              have hpn : pl < nF := by rw [hpl]; have := HNF.out; omega
              have hpl5 : pl < 5 := by omega
              obtain ⟨⟨yk, yv⟩, hy⟩ : ∃ y, F[pl]? = some y := ⟨_, List.getElem?_eq_getElem (by rw [HNF.out]; exact hpn)⟩
              obtain ⟨a0, c0, e0, its⟩ := hS.pv
              obtain ⟨g, e1, k1, _⟩ := its pl _ hy
              dsimp only at k1
              have e2 : av = some ⟨g, 0, none⟩ := by injection e0 with h1; rw [h1, e1]
              have h13' : Boxed W b13 3 (.int .i64 (pl : Int)) := by rw [hpl]; exact h13
              have x7 := hS.x7.cell
              have x11 := hS.x11.cell
              rw [e2] at x11
              have x6 := hS.x6.cell
              have z6 := hS.x6.frozen
              have x13 := h13'.cell
              have z13 := h13'.frozen
              have hbW : base ≤ W.heap.size := by have := hS.fr.size; have := HBW.out; omega
              have HDW := hide (And.intro hS (And.intro h13 (And.intro n13 (And.intro hY (And.intro hX (And.intro hl hp))))))
              have HPL := hide hpl
              have HY := hide hy
              have HBWW := hide hbW
              have hsr := HSR.out
              rw [show d.F = F from HDF0.out] at hsr
              have HSF := hide hsr
              have HCUT := hide (hS.tc.cut hbW x.key (by omega))
              rw [e2]
              have HE2 := hide e2
              clear hS h13 h13' n13 hY hX hl hp hl5 hlt hpl hy e0 its e1 e2 hbW hsr hseq hlx hb3
              have hkz : yk.size ≤ 1048576 := HKS.out ⟨yk, yv⟩ (by rw [show d.F = F from HDF0.out]; exact List.mem_of_getElem? HY.out)
              by_cases hk : yk = x.key
              · subst hk
                have hkz2 : ¬ 9223372036854775807 < x.key.size + 1 := by omega
                gi_wp2_with fail
                refine ⟨trivial, CallsIn.inRound l (callsIn_wide.2 (HCUT.out.mono ?_))⟩
                rintro en W1 ⟨b1, e1, rfl, hb1, c1, m1, l1⟩
                have s1 := HDW.out.1.step c1.1 c1.2.1 c1.2.2.2
                have hz1 : ∀ k, (k = tb ∨ dw.Y k) → TX tb dw k := fun k hk => hk.imp id (HDW.out.1.tc.yx k)
                have kf1 : KeepsFrom W3.heap.size W W1 := keeps_fr c1.2.2.2 (fun k hk => HDW.out.1.tc.2 k (hz1 k hk))
                clear x7 x11 x6 z6 x13 z13 k1 HCUT
                cases b1 with
                | false =>
                  have x6 := s1.x6.cell
                  have z6 := s1.x6.frozen
                  have KF : Hid (KeepsFrom W3.heap.size W (W1.setCell ⟨b6, 0, none⟩ (.bool false))) := hide (kf1.trans (keeps_fr (Fr.setCell _ _ _) (fun k hk => by rw [show k = b6 from hk]; exact bx_isc s1.x6)))
                  have HNP : Hid (¬ pre ++ [x] <+: F) := hide (fun h => by
                    have h1 := pref_at h
                    have h2 := HDW.out.2.2.2.2.2.2 ((List.prefix_append pre [x]).trans h) x (List.mem_iff_getElem?.2 ⟨0, by rw [List.getElem?_drop]; exact h1⟩)
                    have h3 := hb1.2 h2
                    cases h3)
                  clear hb1 c1 m1 l1 s1 hz1 kf1
                  gi_wp2_with fail
                  exact ⟨KF.out, .inr ⟨rfl, HNP.out⟩⟩
                | true =>
                  have n1 := HDW.out.2.2.1
                  have y1 := bx_frz HDW.out.2.1 c1.2.2.2 (fun e => n1 (hz1 _ e))
                  have x13 : W1.cell? ⟨b13, 0, none⟩ = some (.int .i64 (pl : Int)) := by rw [HPL.out]; exact y1.cell
                  have z13 := y1.frozen
                  obtain ⟨p1, hp1⟩ : ∃ p1, p1 = pl + 1 := ⟨_, rfl⟩
                  have hpi : (pl : Int) + 1 = (p1 : Int) := by omega
                  obtain ⟨W2, hW2⟩ : ∃ W2, W2 = W1.setCell ⟨b13, 0, none⟩ (.int .i64 (p1 : Int)) := ⟨_, rfl⟩
                  have n2 : ¬ TX tb e1 b13 := fun h => by
                    rcases h with h | h
                    · exact n1 (.inl h)
                    · rcases c1.2.1 _ h with h | h
                      · exact n1 (.inr h)
                      · have := HDW.out.2.1.lt; omega
                  have g2 : Fr W1 W2 (fun k => k = b13) := by rw [hW2]; exact Fr.setCell _ _ _
                  have s2 := s1.z g2 (fun k hk => by rw [hk]; exact ⟨n2, HNE.out.2⟩)
                  have x7 := s2.x7.cell
                  have HPUT := hide (s2.tc.put (by have := HBWW.out; have := c1.2.2.2.size; have := g2.size; omega) (x.key ++ ⟨#[33]⟩) 2 (by have := HDW.out.2.2.2.2.2.1; have := HPL.out; omega))
                  have HC1 := hide (And.intro c1 (And.intro m1 l1))
                  have HW2 := hide hW2
                  have hp15 : p1 ≤ 5 := by omega
                  have HP1 : Hid (p1 = (pre ++ [x]).length) := hide (by rw [List.length_append, ← HPL.out]; exact hp1)
                  clear hb1 c1 m1 l1 s1 hz1 kf1 n1 y1 hp1 hW2 n2 g2 s2
                  gi_wp2_with (rw [← HW2.out])
                  refine ⟨trivial, CallsIn.inRound l (callsIn_wide.2 (HPUT.out.mono ?_))⟩
                  rintro en W4 ⟨b2, e2, rfl, c2, m2, l2⟩
                  obtain ⟨w1', w2', w3', w4', w5', w6', w7'⟩ := HDW.out
                  obtain ⟨q1, q2, q3, q4⟩ := rgm_step HSF.out HBW.out HNE.out.2 HN3.out HXT.out w1' w2' w3' w4' w5' w6' w7' HC1.out.1 HC1.out.2.1 HC1.out.2.2 HW2.out HP1.out c2 m2 l2 W3.heap.size
                  have x13 := q4.cell
                  have Q1 := hide q1
                  have Q2 := hide q2
                  have Q3 := hide q3
                  clear HPUT c2 m2 l2 q1 q2 q3 q4 w1' w2' w3' w4' w5' w6' w7' hpi z13 x7 HW2
                  by_cases hp5 : p1 = 5
                  · have hp5i : (p1 : Int) = 5 := by omega
                    gi_wp2_with fail
                    exact ⟨Q2.out, .inl ⟨rfl, by have q := Q1.out; rw [HE2.out] at q; exact q, by rw [← HP1.out]; exact hp5⟩⟩
                  · have hp5i : ¬ (p1 : Int) = 5 := by omega
                    gi_wp2_with fail
                    exact ⟨Q2.out, Q3.out, by have q := Q1.out; rw [HE2.out] at q; exact q, by rw [← HP1.out]; omega⟩
              · have KF : Hid (KeepsFrom W3.heap.size W (W.setCell ⟨b6, 0, none⟩ (.bool false))) := hide (keeps_fr (Fr.setCell _ _ _) (fun k hk => by rw [show k = b6 from hk]; exact bx_isc HDW.out.1.x6))
                have HNP : Hid (¬ pre ++ [x] <+: F) := hide (fun h => by
                  have h1 := pref_at h
                  rw [← HPL.out, HY.out] at h1
                  exact hk (by cases h1; rfl))
                have hk2 : ¬ yk.toList = x.key.toList := fun e => hk (bl_inj e)
                have hk3 : ¬ x.key = yk := fun e => hk e.symm
                gi_wp2_with fail
                refine ⟨trivial, ?_⟩
                gi_wp2_with fail
                exact ⟨KF.out, .inr ⟨rfl, HNP.out⟩⟩
            case done =>
              rintro D xs W hD hxs ⟨⟨dw, hS, h13, n13, hY, hX, hl, hp⟩, hl5⟩ hK
              rw [hxs, HNF.out] at h13 hl5
              have hmn : min 5 (nF : Int) = (nF : Int) := by omega
              have x13 := h13.cell
              have x11 := hS.x11.cell
              have x6 := hS.x6.cell
              have z6 := hS.x6.frozen
              have HSS := hide hS
              have HKK := hide hK
              obtain ⟨W2, hW2⟩ : ∃ W2, W2 = W.setCell ⟨b6, 0, none⟩ (.bool true) := ⟨_, rfl⟩
              have HW2 := hide hW2
              clear h13 n13 hY hX hl hp hS hK hW2 hseq hlx
              go_wp2_with (rw [← HW2.out])
              have hDb : ¬ D = b6 := fun e => by
                have h1 := HKK.out
                rw [e] at h1
                obtain ⟨o, h2, h3⟩ := bx_isc HSS.out.x6
                rw [h1] at h2
                cases h2
                cases h3
              have g2 : Fr W W2 (fun k => k = b6) := by rw [HW2.out]; exact Fr.setCell _ _ _
              have y6 : Boxed W2 b6 4 (.bool true) := by rw [HW2.out]; exact bx_put HSS.out.x6 _
              have hK2 : W2.heap[D]? = some (.deferred (some [])) := (g2.block D (Array.getElem?_eq_some_iff.1 HKK.out).1 hDb).trans HKK.out
              refine ⟨by simp, .inl ⟨_, _, rfl, run_takeDeferred hK2, ?_⟩⟩
              have fp := fun o' => Fr.grown (grownBy_putObj' W2 D o')
              refine ⟨_, results_bc rfl _ _ b6 (bx_frz y6 (fp _) (fun e => hDb (Option.some.inj e))) rfl, rfl, ?_⟩
              refine ((HSS.out.fr.two (g2.mono (fun k _ e => by rw [e]; have h6 := HB6.out; have h0 := HB.out; omega))).two ((fp _).mono (fun k _ e => by have e := Option.some.inj e; have := hb3; omega))).mono (fun k hk h => by have h0 := HB.out; omega)
            case stop =>
              rintro D cx pre W hD hpre hx hK
              rcases hx with ⟨rfl, ⟨dw, hS, h13, n13, hY, hX, hl, hp⟩, hl5⟩ | ⟨rfl, hno⟩
              · rw [hl5] at h13
                have hmn : min 5 (nF : Int) = ((5 : Nat) : Int) := by have := hpre.length_le; rw [hl5, HNF.out] at this; omega
                have x13 := h13.cell
                have x11 := hS.x11.cell
                have x6 := hS.x6.cell
                have z6 := hS.x6.frozen
                have HSS := hide hS
                have HKK := hide hK
                obtain ⟨W2, hW2⟩ : ∃ W2, W2 = W.setCell ⟨b6, 0, none⟩ (.bool true) := ⟨_, rfl⟩
                have HW2 := hide hW2
                clear h13 n13 hY hX hl hp hS hK hW2 hseq hlx
                gi_wp2_with fail
                go_wp2_with (rw [← HW2.out])
                have hDb : ¬ D = b6 := fun e => by
                  have h1 := HKK.out
                  rw [e] at h1
                  obtain ⟨o, h2, h3⟩ := bx_isc HSS.out.x6
                  rw [h1] at h2
                  cases h2
                  cases h3
                have g2 : Fr W W2 (fun k => k = b6) := by rw [HW2.out]; exact Fr.setCell _ _ _
                have y6 : Boxed W2 b6 4 (.bool true) := by rw [HW2.out]; exact bx_put HSS.out.x6 _
                have hK2 : W2.heap[D]? = some (.deferred (some [])) := (g2.block D (Array.getElem?_eq_some_iff.1 HKK.out).1 hDb).trans HKK.out
                refine ⟨by simp, .inl ⟨_, _, rfl, run_takeDeferred hK2, ?_⟩⟩
                have fp := fun o' => Fr.grown (grownBy_putObj' W2 D o')
                refine ⟨_, results_bc rfl _ _ b6 (bx_frz y6 (fp _) (fun e => hDb (Option.some.inj e))) rfl, rfl, ?_⟩
                refine ((HSS.out.fr.two (g2.mono (fun k _ e => by rw [e]; have h6 := HB6.out; have h0 := HB.out; omega))).two ((fp _).mono (fun k _ e => by have e := Option.some.inj e; have := hb3; omega))).mono (fun k hk h => by have h0 := HB.out; omega)
              · exact absurd hpre hno
          · have hat2 : ¬ at_.toList = [] := by rw [ByteArray.toList_eq]; exact ba_ne hat
            refine wp_region_K (fun z => decide (z < 12)) (fun U : World => U.cell? ⟨b7, 0, none⟩ = some (.pointer (some ⟨tb, 0, none⟩)) ∧ U.cell? ⟨b11, 0, none⟩ = some (.slice av nF cv)) (by kernel_rfl) ?_
            obtain ⟨Vd, hVd⟩ : ∃ Vd, Vd = V.drew := ⟨_, rfl⟩
            have G1 : Fr V Vd (fun _ => False) := by rw [hVd]; exact Fr.drew _ _
            rw [← hVd]
            clear hVd
            have hS : (fun U : World => U.cell? ⟨b7, 0, none⟩ = some (.pointer (some ⟨tb, 0, none⟩)) ∧ U.cell? ⟨b11, 0, none⟩ = some (.slice av nF cv)) Vd := ⟨(HRV.out.q G1).x7.cell, (HRV.out.q G1).x11.cell⟩
            refine wpAnyK_takeTo 0 (some 56) (.string at_) [1, 2, 3, 4, 5, 6, 7, 8, 9, 10, 11, 12, 13] rfl rfl (by kernel_rfl) (by kernel_rfl) (by kernel_rfl) (by kernel_rfl) (fun _ _ _ h => h) hS (Or.inl ⟨rfl, fun w1 hw1 => by obtain ⟨q7, q11⟩ := hw1; first | (go_simp; done) | (go_simp; exact hat2)⟩) ?_
            simp only [Act.put, List.setIfInBounds_toArray, List.set_cons_zero, List.set_cons_succ]
            refine wpAnyK_takeTo 1 (some 57) (.bool true) [2, 3, 4, 5, 6, 7, 8, 9, 10, 11, 12, 13] rfl rfl (by kernel_rfl) (by kernel_rfl) (by kernel_rfl) (by kernel_rfl) (fun _ _ _ h => h) hS (Or.inl ⟨rfl, fun w1 hw1 => by obtain ⟨q7, q11⟩ := hw1; first | (go_simp; done) | (go_simp; exact hat2)⟩) ?_
            simp only [Act.put, List.setIfInBounds_toArray, List.set_cons_zero, List.set_cons_succ]
            refine wpAnyK_takeTo 2 (some 58) (.bool true) [3, 4, 5, 6, 7, 8, 9, 10, 11, 12, 13] rfl rfl (by kernel_rfl) (by kernel_rfl) (by kernel_rfl) (by kernel_rfl) (fun _ _ _ h => h) hS (Or.inl ⟨rfl, fun w1 hw1 => by obtain ⟨q7, q11⟩ := hw1; first | (go_simp; done) | (go_simp; exact hat2)⟩) ?_
            simp only [Act.put, List.setIfInBounds_toArray, List.set_cons_zero, List.set_cons_succ]
            refine wpAnyK_takeTo 3 (some 59) (.pointer (some ⟨tb, 0, none⟩)) [5, 8, 9, 11, 12, 13] rfl rfl (by kernel_rfl) (by kernel_rfl) (by kernel_rfl) (by kernel_rfl) (fun _ _ _ h => h) hS (Or.inl ⟨rfl, fun w1 hw1 => by obtain ⟨q7, q11⟩ := hw1; first | (go_simp; done) | (go_simp; exact hat2)⟩) ?_
            simp only [Act.put, List.setIfInBounds_toArray, List.set_cons_zero, List.set_cons_succ]
            refine wpAnyK_takeTo 4 (some 60) (.string at_) [5, 8, 9, 11, 12, 13] rfl rfl (by kernel_rfl) (by kernel_rfl) (by kernel_rfl) (by kernel_rfl) (fun _ _ _ h => h) hS (Or.inl ⟨rfl, fun w1 hw1 => by obtain ⟨q7, q11⟩ := hw1; first | (go_simp; done) | (go_simp; exact hat2)⟩) ?_
            simp only [Act.put, List.setIfInBounds_toArray, List.set_cons_zero, List.set_cons_succ]
            refine wpAnyK_takeTo 6 (some 62) (.pointer (some ⟨tb, 0, none⟩)) [8, 9, 11, 12, 13] rfl rfl (by kernel_rfl) (by kernel_rfl) (by kernel_rfl) (by kernel_rfl) (fun _ _ _ h => h) hS (Or.inl ⟨rfl, fun w1 hw1 => by obtain ⟨q7, q11⟩ := hw1; first | (go_simp; done) | (go_simp; exact hat2)⟩) ?_
            simp only [Act.put, List.setIfInBounds_toArray, List.set_cons_zero, List.set_cons_succ]
            refine wpAnyK_takeTo 7 (some 63) (.string at_) [8, 9, 11, 12, 13] rfl rfl (by kernel_rfl) (by kernel_rfl) (by kernel_rfl) (by kernel_rfl) (fun _ _ _ h => h) hS (Or.inl ⟨rfl, fun w1 hw1 => by obtain ⟨q7, q11⟩ := hw1; first | (go_simp; done) | (go_simp; exact hat2)⟩) ?_
            simp only [Act.put, List.setIfInBounds_toArray, List.set_cons_zero, List.set_cons_succ]
            refine wpAnyK_takeTo 10 (some 66) (.slice av nF cv) [11, 12, 13] rfl rfl (by kernel_rfl) (by kernel_rfl) (by kernel_rfl) (by kernel_rfl) (fun _ _ _ h => h) hS (Or.inl ⟨rfl, fun w1 hw1 => by obtain ⟨q7, q11⟩ := hw1; first | (go_simp; done) | (go_simp; exact hat2)⟩) ?_
            simp only [Act.put, List.setIfInBounds_toArray, List.set_cons_zero, List.set_cons_succ]
            have s0 := HRV.out.q G1
            have L1 := s0.tc.listed ⟨#[]⟩ at_ (by omega) (by omega) (by rw [HDF.out, HNF.out]; omega)
            refine wpAnyK_one (i := 5) (by kernel_rfl) rfl rfl ?_
            refine wp_call_to (some 61) rfl 15 #[.pointer (some ⟨tb, 0, none⟩), .string ⟨#[]⟩, .string at_] (by go_simp) L1 ?_
            rintro en W1 ⟨v1, rfl, t1, o1, e1, g1⟩
            have s1 := s0.step t1 (fun k hk => .inl hk) (g1.mono (fun k _ h => .inl h))
            refine ⟨_, rfl, fun _ => ⟨s1.x7.cell, s1.x11.cell⟩, ?_⟩
            simp only [Act.put, List.setIfInBounds_toArray, List.set_cons_zero, List.set_cons_succ]
            have L2 := s1.tc.listed at_ ⟨#[]⟩ (by omega) (by omega) (by rw [show dd.old.F = F from HDF.out, HNF.out]; omega)
            refine wpAnyK_one (i := 8) (by kernel_rfl) rfl rfl ?_
            refine wp_call_to (some 64) rfl 15 #[.pointer (some ⟨tb, 0, none⟩), .string at_, .string ⟨#[]⟩] (by go_simp) L2 ?_
            rintro en W2 ⟨v2, rfl, t2, o2, e2, g2⟩
            have s2 := s1.step t2 (fun k hk => .inl hk) (g2.mono (fun k _ h => .inl h))
            refine ⟨_, rfl, fun _ => ⟨s2.x7.cell, s2.x11.cell⟩, ?_⟩
            simp only [Act.put, List.setIfInBounds_toArray, List.set_cons_zero, List.set_cons_succ]
            have o1' := ownsRow_fr o1 g2 (fun k hk e => by have := (e1 k hk).1; have := s0.tc.1.lt tb (.inl rfl); omega)
            have l1 := rng_le ⟨#[]⟩ at_ dd.F
            have l2 := rng_le at_ ⟨#[]⟩ dd.old.F
            have l3 : dd.F.length = nF := by rw [HDF.out]; exact HNF.out
            have l4 : dd.old.F.length = nF := l3
            obtain ⟨a3, c3, W3, hr3, o3, g3⟩ := app_row46 o1' o2 (by omega)
            have s3 := s2.z g3 (fun k hk => s0.above (by rw [HB.out]; exact Nat.le_refl _) k (e1 k hk).1)
            refine wpAnyK_one (i := 9) (by kernel_rfl) rfl rfl ?_
            refine wp_append_to (.tmp 61) (.tmp 64) 29 rfl (some 65) rfl 29 rfl _ _ rfl rfl _ W3 hr3 ?_
            simp only [Act.put, List.setIfInBounds_toArray, List.set_cons_zero, List.set_cons_succ]
            refine ⟨fun _ => ⟨s3.x7.cell, s3.x11.cell⟩, ?_⟩
            have p3 := PairsV.of o3 (by rw [List.length_append])
            have hsr := HSR.out
            rw [show d.F = F from HDF0.out] at hsr
            rw [show rng ⟨#[]⟩ at_ dd.F ++ rng at_ ⟨#[]⟩ dd.old.F = F from by rw [show dd.old.F = dd.F from rfl, HDF.out]; exact rng_two hsr (ba_ne hat)] at p3
            refine wpAnyK_one (i := 11) (by kernel_rfl) rfl rfl ?_
            refine wp_call_to (some 67) rfl 14 #[_, .slice av nF cv] (by go_simp) (pairs_any p3 s3.pv (by rw [HNF.out]; omega)) ?_
            rintro en Vt ⟨b, rfl, hb, g4⟩
            obtain rfl : b = true := hb.2 rfl
            have s4 := s3.q g4
            refine ⟨_, rfl, fun _ => ⟨s4.x7.cell, s4.x11.cell⟩, ?_⟩
            simp only [Act.put, List.setIfInBounds_toArray, List.set_cons_zero, List.set_cons_succ]
            refine wpAnyK_one (i := 12) (by kernel_rfl) rfl rfl ?_
            go_simp
            refine wpAnyK_one (i := 13) (by kernel_rfl) rfl rfl ?_
            go_simp
            refine wpAnyK_done (by kernel_rfl) ?_ _
            obtain ⟨la, hla⟩ : ∃ la, la = (rng ⟨#[]⟩ at_ dd.F).length + (rng at_ ⟨#[]⟩ dd.old.F).length := ⟨_, rfl⟩
            rw [← hla]
            have HRT := hide s4
            obtain ⟨cc, hcc⟩ : ∃ cc : Int, cc = 1 + 1 + 1 := ⟨_, rfl⟩
            have hc1 : 1 ≤ cc ∧ cc ≤ 3 := by omega
            rw [← hcc] at HRT
            obtain ⟨dx, hdx⟩ : ∃ dx, dx = dd.old.old := ⟨_, rfl⟩
            rw [← hdx] at HRT
            have HDX : Hid (dx.F = F) := hide (by rw [hdx]; exact HDF.out)
            clear hS G1 HRV HFV HW0 HRS x11 y7 hcc hdx s0 s1 s2 s3 s4 L1 L2 t1 o1 e1 g1 t2 o2 e2 g2 o1' l1 l2 l3 l4 hr3 o3 g3 p3 hsr hb g4 HB11 hla
            obtain ⟨b13, hb13⟩ : ∃ b13, b13 = Vt.heap.size := ⟨_, rfl⟩
            obtain ⟨WA, hWA⟩ : ∃ WA, WA = Vt.alloc (.cells #[.int .i64 0] 3) := ⟨_, rfl⟩
            have fA : Fr Vt WA (fun _ => False) := by rw [hWA]; exact Fr.alloc Vt _ _
            have BA : Boxed WA b13 3 (.int .i64 0) := by rw [hWA, hb13]; exact Boxed.new Vt 3 _
            obtain ⟨W0, hW0⟩ : ∃ W0, W0 = WA.setCell ⟨b13, 0, none⟩ (.int .i64 0) := ⟨_, rfl⟩
            have f0 : Fr Vt W0 (fun _ => False) := by
              rw [hW0]
              exact (fA.trans (Fr.setCell WA ⟨b13, 0, none⟩ _)).mono (fun k hk h => by
                rcases h with h | h
                · exact h
                · have h : k = b13 := h
                  omega)
            have B13 : Boxed W0 b13 3 (.int .i64 0) := by rw [hW0]; exact bx_put BA _
            have hbw : base ≤ w.heap.size := by rw [HB.out]; exact Nat.le_refl _
            have n13 := HRT.out.above hbw b13 (by omega)
            have s5 := HRT.out.q f0
            have HRG := hide (s5.tc.range ⟨#[]⟩ ⟨#[]⟩ (by omega) (by omega))
            have y7 := s5.x7.cell
            have xA := BA.cell
            have zA := BA.frozen
            have HS5 := hide s5
            have H13 := hide B13
            have HNE := hide n13
            have HE13 := hide hb13
            have HWA := hide hWA
            have HW0 := hide hW0
            have HBW := hide hbw
            clear hb13 hWA hW0 fA BA f0 B13 hbw n13 s5 HRT
            go_wp2_with (first | (rw [← HWA.out, ← HE13.out]; clear HWA) | (rw [← HW0.out]; clear HW0))
            refine HRG.out.mono ?_
            rintro en W3 ⟨R, A, B, hh, lo, rfl, t3, hsub, rR, rA, rB, g3⟩
            have s6 := HS5.out.step t3 (fun k hk => .inl hk) (g3.mono (fun k _ h => .inl h))
            have hseq := range_stops hsub t3.1.srt ho64 rR rA rB (3 - 1)
            rw [rng_all, show dx.old.F = F from HDX.out] at hseq
            obtain ⟨X0, hX0⟩ : ∃ X0, X0 = dx.old.X := ⟨_, rfl⟩
            rw [← hX0] at hseq
            have hlx : ∀ k, X0 k → k < W3.heap.size := fun k hk => t3.1.lt k (.inr (by rw [← hX0]; exact hk))
            have HN3 : Hid (¬ X0 b13) := hide (fun h => HNE.out.1 (.inr (by rw [hX0] at h; exact h)))
            have HXT : Hid (¬ X0 tb) := hide (fun h => t3.out (by rw [← hX0]; exact h))
            have hst : RgM base o (cc + 1) w tb b6 b7 b11 b13 (.slice av nF cv) F X0 [] W3 := ⟨dx.old, s6, bx_frz H13.out g3 (fun e => HNE.out.1 (.inl e)), HNE.out.1, fun _ h => h.elim, hlx, by rw [show dx.old.F = F from HDX.out, HNF.out]; exact hnFb, fun _ x hx => ⟨x.val, by rw [show dx.old.F = F from HDX.out]; exact List.mem_of_mem_drop hx⟩⟩
            have HST2 := hide hst
            have hb3 : base ≤ W3.heap.size := by have := s6.fr.size; have := HBW.out; omega
            clear HRG HS5 g3 t3 s6 hsub rR rA rB y7 xA zA hst H13 HX6 HL6 hX0
            go_wp2_with fail
            refine (wpIn_wide (n := 3)).1 ?_
            refine wpIn_rangeFunc_ownG (w0 := W3) rfl (by omega) (gf := 27) (lb := #[.pointer (some ⟨R, 0, none⟩), .pointer (some ⟨A, 0, none⟩), .pointer (some ⟨B, 0, none⟩)]) rfl trivial (enters_of Try.func27 (by kernel_rfl) rfl)
              hseq (fun h k => KX.trans h k) (fun W l o o' hl _ _ _ => (Fr.grown (grownBy_putObj' W l o')).mono (fun k _ e hx => by have e := Option.some.inj e; have := hlx k hx; omega)) (RowKit.Below.refl _ _) (fun _ => rfl)
              (fun pre W => RgM base o (cc + 1) w tb b6 b7 b11 b13 (.slice av nF cv) F X0 pre W ∧ pre.length < 5)
              (RgX base o (cc + 1) w tb b6 b7 b11 b13 (.slice av nF cv) F X0)
              (fun s W W' row hs hg hr => ⟨rgm_own hb3 s W W' row hs.1 hg hr, hs.2⟩)
              (fun c s W W' row hs hg hr => hs.imp (fun h => ⟨h.1, rgm_own hb3 s W W' row h.2.1 hg hr, h.2.2⟩) (fun h => h))
              ⟨HST2.out, by simp⟩
              (fun x => { tmps := #[.int .i64 (o : Int), .slice aa n c, .string at_, undef, undef, undef, .pointer (some ⟨b6, 0, none⟩), .pointer (some ⟨b7, 0, none⟩), .int .i64 0, undef, u10, .pointer (some ⟨b11, 0, none⟩), .int .i64 (ii : Int), .pointer (some ⟨b13, 0, none⟩), .string x.key, .bool true, .bool false, .tuple #[.pointer (some ⟨tb, 0, none⟩), .int .i64 0], .int .i64 (o : Int), .tuple #[.pointer (some ⟨tb, 0, none⟩), .int .i64 0], .pointer (some ⟨tb, 0, none⟩), .int .i64 0, .pointer (some ⟨tb, 0, none⟩), .bool false, undef, undef, .slice aa n c, .int .i64 (n : Int), .int .i64 (i : Int), .bool false, u30, u31, u32, u33, u34, u35, .pointer (some ⟨tb, 0, none⟩), .slice av nF cv, .int .i64 (ii : Int), .slice av nF cv, .int .i64 (nF : Int), .bool false, u42, u43, u44, u45, u46, u47, u48, u49, u50, u51, u52, u53, u54, u55, .string at_, .bool true, .bool true, .pointer (some ⟨tb, 0, none⟩), .string at_, v1, .pointer (some ⟨tb, 0, none⟩), .string at_, v2, .slice a3 la c3, .slice av nF cv, .bool true, .bool false, .bool false, .pointer (some ⟨tb, 0, none⟩), .func (.func 27) #[] #[.pointer (some ⟨R, 0, none⟩), .pointer (some ⟨A, 0, none⟩), .pointer (some ⟨B, 0, none⟩)], .string x.key, .int .i64 x.val, undef, undef, undef, undef, undef, undef, undef, undef, undef, undef, undef, undef, undef, undef, undef, undef, undef, undef, undef, undef, undef, undef, undef, undef, undef, undef, undef, undef, undef, undef, undef, undef], defers := [] }) ?assign ?body ?done ?stop
            case assign =>
              intro l x W K hK
              gi_wp2
              exact hK
            case body =>
              rintro l pre x W ⟨⟨dw, hS, h13, n13, hY, hX, hl, hp⟩, hl5⟩ hlt
              obtain ⟨pl, hpl⟩ : ∃ pl, pl = pre.length := ⟨_, rfl⟩
              have hpn : pl < nF := by rw [hpl]; have := HNF.out; omega
              have hpl5 : pl < 5 := by omega
              obtain ⟨⟨yk, yv⟩, hy⟩ : ∃ y, F[pl]? = some y := ⟨_, List.getElem?_eq_getElem (by rw [HNF.out]; exact hpn)⟩
              obtain ⟨a0, c0, e0, its⟩ := hS.pv
              obtain ⟨g, e1, k1, _⟩ := its pl _ hy
              dsimp only at k1
              have e2 : av = some ⟨g, 0, none⟩ := by injection e0 with h1; rw [h1, e1]
              have h13' : Boxed W b13 3 (.int .i64 (pl : Int)) := by rw [hpl]; exact h13
              have x7 := hS.x7.cell
              have x11 := hS.x11.cell
              rw [e2] at x11
              have x6 := hS.x6.cell
              have z6 := hS.x6.frozen
              have x13 := h13'.cell
              have z13 := h13'.frozen
              have hbW : base ≤ W.heap.size := by have := hS.fr.size; have := HBW.out; omega
              have HDW := hide (And.intro hS (And.intro h13 (And.intro n13 (And.intro hY (And.intro hX (And.intro hl hp))))))
              have HPL := hide hpl
              have HY := hide hy
              have HBWW := hide hbW
              have hsr := HSR.out
              rw [show d.F = F from HDF0.out] at hsr
              have HSF := hide hsr
              have HCUT := hide (hS.tc.cut hbW x.key (by omega))
              rw [e2]
              have HE2 := hide e2
              clear hS h13 h13' n13 hY hX hl hp hl5 hlt hpl hy e0 its e1 e2 hbW hsr hseq hlx hb3
              have hkz : yk.size ≤ 1048576 := HKS.out ⟨yk, yv⟩ (by rw [show d.F = F from HDF0.out]; exact List.mem_of_getElem? HY.out)
              by_cases hk : yk = x.key
              · subst hk
                have hkz2 : ¬ 9223372036854775807 < x.key.size + 1 := by omega
                gi_wp2_with fail
                refine ⟨trivial, CallsIn.inRound l (callsIn_wide.2 (HCUT.out.mono ?_))⟩
                rintro en W1 ⟨b1, e1, rfl, hb1, c1, m1, l1⟩
                have s1 := HDW.out.1.step c1.1 c1.2.1 c1.2.2.2
                have hz1 : ∀ k, (k = tb ∨ dw.Y k) → TX tb dw k := fun k hk => hk.imp id (HDW.out.1.tc.yx k)
                have kf1 : KeepsFrom W3.heap.size W W1 := keeps_fr c1.2.2.2 (fun k hk => HDW.out.1.tc.2 k (hz1 k hk))
                clear x7 x11 x6 z6 x13 z13 k1 HCUT
                cases b1 with
                | false =>
                  have x6 := s1.x6.cell
                  have z6 := s1.x6.frozen
                  have KF : Hid (KeepsFrom W3.heap.size W (W1.setCell ⟨b6, 0, none⟩ (.bool false))) := hide (kf1.trans (keeps_fr (Fr.setCell _ _ _) (fun k hk => by rw [show k = b6 from hk]; exact bx_isc s1.x6)))
                  have HNP : Hid (¬ pre ++ [x] <+: F) := hide (fun h => by
                    have h1 := pref_at h
                    have h2 := HDW.out.2.2.2.2.2.2 ((List.prefix_append pre [x]).trans h) x (List.mem_iff_getElem?.2 ⟨0, by rw [List.getElem?_drop]; exact h1⟩)
                    have h3 := hb1.2 h2
                    cases h3)
                  clear hb1 c1 m1 l1 s1 hz1 kf1
                  gi_wp2_with fail
                  exact ⟨KF.out, .inr ⟨rfl, HNP.out⟩⟩
                | true =>
                  have n1 := HDW.out.2.2.1
                  have y1 := bx_frz HDW.out.2.1 c1.2.2.2 (fun e => n1 (hz1 _ e))
                  have x13 : W1.cell? ⟨b13, 0, none⟩ = some (.int .i64 (pl : Int)) := by rw [HPL.out]; exact y1.cell
                  have z13 := y1.frozen
                  obtain ⟨p1, hp1⟩ : ∃ p1, p1 = pl + 1 := ⟨_, rfl⟩
                  have hpi : (pl : Int) + 1 = (p1 : Int) := by omega
                  obtain ⟨W2, hW2⟩ : ∃ W2, W2 = W1.setCell ⟨b13, 0, none⟩ (.int .i64 (p1 : Int)) := ⟨_, rfl⟩
                  have n2 : ¬ TX tb e1 b13 := fun h => by
                    rcases h with h | h
                    · exact n1 (.inl h)
                    · rcases c1.2.1 _ h with h | h
                      · exact n1 (.inr h)
                      · have := HDW.out.2.1.lt; omega
                  have g2 : Fr W1 W2 (fun k => k = b13) := by rw [hW2]; exact Fr.setCell _ _ _
                  have s2 := s1.z g2 (fun k hk => by rw [hk]; exact ⟨n2, HNE.out.2⟩)
                  have x7 := s2.x7.cell
                  have HPUT := hide (s2.tc.put (by have := HBWW.out; have := c1.2.2.2.size; have := g2.size; omega) (x.key ++ ⟨#[33]⟩) 2 (by have := HDW.out.2.2.2.2.2.1; have := HPL.out; omega))
                  have HC1 := hide (And.intro c1 (And.intro m1 l1))
                  have HW2 := hide hW2
                  have hp15 : p1 ≤ 5 := by omega
                  have HP1 : Hid (p1 = (pre ++ [x]).length) := hide (by rw [List.length_append, ← HPL.out]; exact hp1)
                  clear hb1 c1 m1 l1 s1 hz1 kf1 n1 y1 hp1 hW2 n2 g2 s2
                  gi_wp2_with (rw [← HW2.out])
                  refine ⟨trivial, CallsIn.inRound l (callsIn_wide.2 (HPUT.out.mono ?_))⟩
                  rintro en W4 ⟨b2, e2, rfl, c2, m2, l2⟩
                  obtain ⟨w1', w2', w3', w4', w5', w6', w7'⟩ := HDW.out
                  obtain ⟨q1, q2, q3, q4⟩ := rgm_step HSF.out HBW.out HNE.out.2 HN3.out HXT.out w1' w2' w3' w4' w5' w6' w7' HC1.out.1 HC1.out.2.1 HC1.out.2.2 HW2.out HP1.out c2 m2 l2 W3.heap.size
                  have x13 := q4.cell
                  have Q1 := hide q1
                  have Q2 := hide q2
                  have Q3 := hide q3
                  clear HPUT c2 m2 l2 q1 q2 q3 q4 w1' w2' w3' w4' w5' w6' w7' hpi z13 x7 HW2
                  by_cases hp5 : p1 = 5
                  · have hp5i : (p1 : Int) = 5 := by omega
                    gi_wp2_with fail
                    exact ⟨Q2.out, .inl ⟨rfl, by have q := Q1.out; rw [HE2.out] at q; exact q, by rw [← HP1.out]; exact hp5⟩⟩
                  · have hp5i : ¬ (p1 : Int) = 5 := by omega
                    gi_wp2_with fail
                    exact ⟨Q2.out, Q3.out, by have q := Q1.out; rw [HE2.out] at q; exact q, by rw [← HP1.out]; omega⟩
              · have KF : Hid (KeepsFrom W3.heap.size W (W.setCell ⟨b6, 0, none⟩ (.bool false))) := hide (keeps_fr (Fr.setCell _ _ _) (fun k hk => by rw [show k = b6 from hk]; exact bx_isc HDW.out.1.x6))
                have HNP : Hid (¬ pre ++ [x] <+: F) := hide (fun h => by
                  have h1 := pref_at h
                  rw [← HPL.out, HY.out] at h1
                  exact hk (by cases h1; rfl))
                have hk2 : ¬ yk.toList = x.key.toList := fun e => hk (bl_inj e)
                have hk3 : ¬ x.key = yk := fun e => hk e.symm
                gi_wp2_with fail
                refine ⟨trivial, ?_⟩
                gi_wp2_with fail
                exact ⟨KF.out, .inr ⟨rfl, HNP.out⟩⟩
            case done =>
              rintro D xs W hD hxs ⟨⟨dw, hS, h13, n13, hY, hX, hl, hp⟩, hl5⟩ hK
              rw [hxs, HNF.out] at h13 hl5
              have hmn : min 5 (nF : Int) = (nF : Int) := by omega
              have x13 := h13.cell
              have x11 := hS.x11.cell
              have x6 := hS.x6.cell
              have z6 := hS.x6.frozen
              have HSS := hide hS
              have HKK := hide hK
              obtain ⟨W2, hW2⟩ : ∃ W2, W2 = W.setCell ⟨b6, 0, none⟩ (.bool true) := ⟨_, rfl⟩
              have HW2 := hide hW2
              clear h13 n13 hY hX hl hp hS hK hW2 hseq hlx
              go_wp2_with (rw [← HW2.out])
              have hDb : ¬ D = b6 := fun e => by
                have h1 := HKK.out
                rw [e] at h1
                obtain ⟨o, h2, h3⟩ := bx_isc HSS.out.x6
                rw [h1] at h2
                cases h2
                cases h3
              have g2 : Fr W W2 (fun k => k = b6) := by rw [HW2.out]; exact Fr.setCell _ _ _
              have y6 : Boxed W2 b6 4 (.bool true) := by rw [HW2.out]; exact bx_put HSS.out.x6 _
              have hK2 : W2.heap[D]? = some (.deferred (some [])) := (g2.block D (Array.getElem?_eq_some_iff.1 HKK.out).1 hDb).trans HKK.out
              refine ⟨by simp, .inl ⟨_, _, rfl, run_takeDeferred hK2, ?_⟩⟩
              have fp := fun o' => Fr.grown (grownBy_putObj' W2 D o')
              refine ⟨_, results_bc rfl _ _ b6 (bx_frz y6 (fp _) (fun e => hDb (Option.some.inj e))) rfl, rfl, ?_⟩
              refine ((HSS.out.fr.two (g2.mono (fun k _ e => by rw [e]; have h6 := HB6.out; have h0 := HB.out; omega))).two ((fp _).mono (fun k _ e => by have e := Option.some.inj e; have := hb3; omega))).mono (fun k hk h => by have h0 := HB.out; omega)
            case stop =>
              rintro D cx pre W hD hpre hx hK
              rcases hx with ⟨rfl, ⟨dw, hS, h13, n13, hY, hX, hl, hp⟩, hl5⟩ | ⟨rfl, hno⟩
              · rw [hl5] at h13
                have hmn : min 5 (nF : Int) = ((5 : Nat) : Int) := by have := hpre.length_le; rw [hl5, HNF.out] at this; omega
                have x13 := h13.cell
                have x11 := hS.x11.cell
                have x6 := hS.x6.cell
                have z6 := hS.x6.frozen
                have HSS := hide hS
                have HKK := hide hK
                obtain ⟨W2, hW2⟩ : ∃ W2, W2 = W.setCell ⟨b6, 0, none⟩ (.bool true) := ⟨_, rfl⟩
                have HW2 := hide hW2
                clear h13 n13 hY hX hl hp hS hK hW2 hseq hlx
                gi_wp2_with fail
                go_wp2_with (rw [← HW2.out])
                have hDb : ¬ D = b6 := fun e => by
                  have h1 := HKK.out
                  rw [e] at h1
                  obtain ⟨o, h2, h3⟩ := bx_isc HSS.out.x6
                  rw [h1] at h2
                  cases h2
                  cases h3
                have g2 : Fr W W2 (fun k => k = b6) := by rw [HW2.out]; exact Fr.setCell _ _ _
                have y6 : Boxed W2 b6 4 (.bool true) := by rw [HW2.out]; exact bx_put HSS.out.x6 _
                have hK2 : W2.heap[D]? = some (.deferred (some [])) := (g2.block D (Array.getElem?_eq_some_iff.1 HKK.out).1 hDb).trans HKK.out
                refine ⟨by simp, .inl ⟨_, _, rfl, run_takeDeferred hK2, ?_⟩⟩
                have fp := fun o' => Fr.grown (grownBy_putObj' W2 D o')
                refine ⟨_, results_bc rfl _ _ b6 (bx_frz y6 (fp _) (fun e => hDb (Option.some.inj e))) rfl, rfl, ?_⟩
                refine ((HSS.out.fr.two (g2.mono (fun k _ e => by rw [e]; have h6 := HB6.out; have h0 := HB.out; omega))).two ((fp _).mono (fun k _ e => by have e := Option.some.inj e; have := hb3; omega))).mono (fun k hk h => by have h0 := HB.out; omega)
              · exact absurd hpre hno
end Go.Proofs.Ytaonhgabnbmcfaa
