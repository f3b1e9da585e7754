/- WholeOrdered: what lies in memory. -/
import Derived.Test.YtiicgfipmdgnhaaXa
import Derived.Test.YtiicgfipmdgnhaaXb
import Derived.Test.YtiicgfipmdgnhaaZf
import Derived.Test.YtiicgfipmdgnhaaRd
import Derived.Test.YtiicgfipmdgnhaaBl
import Derived.Lib.ConvBytes
namespace Go.Proofs.Ytiicgfipmdgnhaa
open Go.RowKit Go.Shelf
set_option maxRecDepth 100000
set_option linter.unusedVariables false
set_option linter.unusedSimpArgs false

theorem Vals.old {w w' : World} {a : Option Addr} {L : List Val} (h : Vals w a L) (hf : Fr w w' (fun k => w.heap.size ≤ k)) : Vals w' a L := by
  rcases h with h | ⟨g, off, e, h⟩
  · exact .inl h
  · refine .inr ⟨g, off, e, fun j v hv => ?_⟩
    obtain ⟨h1, h2, h3⟩ := h j v hv
    have hg : ¬ w.heap.size ≤ g := by have := World.block_lt_of_cell? w _ h1; simp at this; omega
    exact ⟨hf.cell hg h1, hf.cell hg h2, hf.cell hg h3⟩
/-- Rows of values that came in. -/
def RwsIn (w : World) (a : Option Addr) (Rows : List (List Val)) : Prop := ∀ (i : Nat) (R : List Val), Rows[i]? = some R → ∃ g off a' c', a = some ⟨g, off, none⟩ ∧ w.cell? ⟨g, off + i, none⟩ = some (.slice a' R.length c') ∧ Vals w a' R ∧ R.length ≤ 1048576 ∧ Wf R
theorem RwsIn.old {w w' : World} {a : Option Addr} {L : List (List Val)} (h : RwsIn w a L) (hf : Fr w w' (fun k => w.heap.size ≤ k)) : RwsIn w' a L := fun i R hi => by
  obtain ⟨g, off, a', c', e, h1, h2, h3⟩ := h i R hi
  have hg : ¬ w.heap.size ≤ g := by have := World.block_lt_of_cell? w _ h1; simp at this; omega
  exact ⟨g, off, a', c', e, hf.cell hg h1, h2.old hf, h3⟩
/-- The bytes of a text, new. -/
theorem conv_any (W : World) (k : ByteArray) : ∃ c W1, (convert 9 30 (.string k)).run Try.prog W = .ok (.slice (some ⟨W.heap.size, 0, none⟩) k.size c) W1 ∧ BI W1 (some ⟨W.heap.size, 0, none⟩) k.size k.data.toList ∧ k.size ≤ c ∧ Fr W W1 (fun _ => False) := by
  refine ⟨_, _, Lib.run_convert_string_bytes W 9 30 5 k Try.underlying9 Try.underlying30 Try.underlying5, ⟨by rw [Array.length_toList]; rfl, .inr ⟨_, 0, rfl, fun j u hu => ?_⟩⟩, grownCap_ge _ _ _ _, ?_⟩
  · have hj : j < k.size := by have := (List.getElem?_eq_some_iff.1 hu).1; rw [Array.length_toList] at this; exact this
    rw [Nat.zero_add, Lib.bytesWorld_cell W 5 k j hj, List.getD_eq_getElem?_getD, hu]
    rfl
  · refine ⟨rfl, rfl, rfl, by rw [Lib.bytesWorld_size]; omega, fun j hj _ => Lib.bytesWorld_at_old W 5 k j hj⟩
/-- A row of the input, by its key. -/
def RowOf (Rows : List (List Val)) (x : It) : Prop := ∃ (j : Nat) (R : List Val), x.val = (j : Int) ∧ Rows[j]? = some R ∧ checkL R = 0 ∧ x.key = strOf (encL R)
/-- The tree and the boxes of the call. -/
structure OS (base o : Nat) (cur : Int) (w V : World) (tb : Nat) (d : Kd) (b4 b5 b6 : Nat) (rv hv : Value) : Prop where
  ts : TS base o cur V tb d
  x4 : Boxed V b4 22 rv
  x5 : Boxed V b5 23 hv
  x6 : Boxed V b6 4 (.bool false)
  n4 : ¬ TX tb d b4
  n5 : ¬ TX tb d b5
  n6 : ¬ TX tb d b6
  fr : Fr w V (fun k => base ≤ k)
theorem OS.q {base o : Nat} {cur : Int} {w V W : World} {tb : Nat} {d : Kd} {b4 b5 b6 : Nat} {rv hv : Value} (h : OS base o cur w V tb d b4 b5 b6 rv hv) (hf : Fr V W (fun _ => False)) : OS base o cur w W tb d b4 b5 b6 rv hv :=
  ⟨h.ts.fr hf (fun _ _ h => h), bx_frz h.x4 hf (fun h => h), bx_frz h.x5 hf (fun h => h), bx_frz h.x6 hf (fun h => h), h.n4, h.n5, h.n6, h.fr.two (hf.mono (fun _ _ h => h.elim))⟩
theorem OS.z {base o : Nat} {cur : Int} {w V W : World} {tb : Nat} {d : Kd} {b4 b5 b6 : Nat} {rv hv : Value} {Z : Nat → Prop} (h : OS base o cur w V tb d b4 b5 b6 rv hv) (hf : Fr V W Z) (hz : ∀ k, Z k → ¬ TX tb d k ∧ k ≠ b4 ∧ k ≠ b5 ∧ k ≠ b6 ∧ base ≤ k) : OS base o cur w W tb d b4 b5 b6 rv hv :=
  ⟨h.ts.fr hf (fun k h1 h2 => (hz k h2).1 h1), bx_frz h.x4 hf (fun h => (hz _ h).2.1 rfl), bx_frz h.x5 hf (fun h => (hz _ h).2.2.1 rfl), bx_frz h.x6 hf (fun h => (hz _ h).2.2.2.1 rfl), h.n4, h.n5, h.n6, h.fr.two (hf.mono (fun k _ h => (hz k h).2.2.2.2))⟩
theorem OS.hb {base o : Nat} {cur : Int} {w V : World} {tb : Nat} {d : Kd} {b4 b5 b6 : Nat} {rv hv : Value} (h : OS base o cur w V tb d b4 b5 b6 rv hv) : base ≤ V.heap.size := by
  have h1 := h.ts.base tb (.inl rfl)
  have h2 := h.ts.lt tb (.inl rfl)
  omega
/-- The tree is changed. -/
theorem OS.step {base o : Nat} {cur cur' : Int} {w V W : World} {tb : Nat} {d d' : Kd} {b4 b5 b6 : Nat} {rv hv : Value} (h : OS base o cur w V tb d b4 b5 b6 rv hv) (ht : TS base o cur' W tb d') (hX : ∀ k, TX tb d' k → TX tb d k ∨ V.heap.size ≤ k) (hf : Fr V W (TX tb d)) : OS base o cur' w W tb d' b4 b5 b6 rv hv := by
  have hn : ∀ k, k < V.heap.size → ¬ TX tb d k → ¬ TX tb d' k := fun k hk hx h' => by
    rcases hX k h' with h2 | h2
    · exact hx h2
    · omega
  exact ⟨ht, bx_frz h.x4 hf h.n4, bx_frz h.x5 hf h.n5, bx_frz h.x6 hf h.n6, hn _ h.x4.lt h.n4, hn _ h.x5.lt h.n5, hn _ h.x6.lt h.n6, h.fr.two (hf.mono (fun k _ hk => h.ts.base k hk))⟩
def RngT (base o : Nat) (cur : Int) (w : World) (tb : Nat) (d : Kd) (fr to : ByteArray) (e : Ending) (w' : World) : Prop := ∃ R A B h lo : Nat, e = .returned (.func (.func 19) #[] #[.pointer (some ⟨R, 0, none⟩), .pointer (some ⟨A, 0, none⟩), .pointer (some ⟨B, 0, none⟩)]) ∧ TS base o (cur + 1) w' tb d.old ∧ Sub o (cur + 1) h lo w' d.old ∧ w'.heap[R]? = some (.cells #[.pointer (some ⟨d.old.g, 0, none⟩)] 45 (0, 0)) ∧ w'.heap[A]? = some (.cells #[.string fr] 9 (0, 0)) ∧ w'.heap[B]? = some (.cells #[.string to] 9 (0, 0)) ∧ Fr w w' (fun k => k = tb) ∧ ¬ d.X tb
theorem TS.range {base o : Nat} {cur : Int} {w : World} {tb : Nat} {d : Kd} (h : TS base o cur w tb d) (fr to : ByteArray) (hc0 : 0 ≤ cur) (hc1 : cur ≤ 4611686018427387904) : Calls Try.prog 8 #[.pointer (some ⟨tb, 0, none⟩), .string fr, .string to] w (RngT base o cur w tb d fr to) := by
  obtain ⟨h', ht, h1, h2⟩ := h
  refine (range_any ht fr to hc0 hc1).mono ?_
  rintro e w' ⟨R, A, B, rfl, q1, r1, r2, r3, _, _, _, q3⟩
  exact ⟨R, A, B, _, _, rfl, ⟨h', q1, h1, h2⟩, q1.sub, r1, r2, r3, q3, ht.out⟩
def OrI (base o : Nat) (w : World) (tb b4 b5 b6 : Nat) (rv hv : Value) (Rows : List (List Val)) (i : Nat) (V : World) : Prop := ∃ d, OS base o 0 w V tb d b4 b5 b6 rv hv ∧ (∀ x ∈ d.F, RowOf Rows x) ∧ d.F.length ≤ i
/-- The last values told, in memory. -/
def LastV (w W : World) (b13 : Nat) (base : Nat) (P : List Val → Prop) : Prop := ∃ la lc L, Boxed W b13 23 (.slice la L.length lc) ∧ OwnV W (.slice la L.length lc) L ∧ (∀ k, la = some ⟨k, 0, none⟩ → base ≤ k) ∧ P L ∧ L.length ≤ 1048576
def LastOk {G : List It} (pre : List (In G)) (L : List Val) : Prop := ∀ y, pre.getLast? = some y → checkL L = 0 ∧ Wf L ∧ y.1.key = strOf (encL L)
/-- While the first range goes on. -/
structure M1 (base o : Nat) (cur : Int) (w : World) (tb : Nat) (dx : Kd) (b4 b5 b6 : Nat) (rv hv : Value) (b13 b14 : Nat) {G : List It} (pre : List (In G)) (W : World) : Prop where
  os : OS base o cur w W tb dx b4 b5 b6 rv hv
  la : LastV w W b13 base (LastOk pre)
  cn : Boxed W b14 3 (.int .i64 (pre.length : Int))
theorem own_isc {W : World} {t : TypeId} {s n : Nat} {v : Value} {xs : List Value} (h : W.ownsRow 0 t s v n xs) : ∀ k, v.ownBlock = some k → IsC W k := fun k hk => by
  rcases h.2 with ⟨e, _⟩ | ⟨g, cap, c, e, _, hg, _⟩
  · rw [e] at hk; cases hk
  · rw [e] at hk; cases hk; exact ⟨_, hg, rfl⟩
theorem OS.off {base o : Nat} {cur : Int} {w V W : World} {tb : Nat} {d : Kd} {b4 b5 b6 : Nat} {rv hv : Value} {row : Option Nat} {n : Nat} (h : OS base o cur w V tb d b4 b5 b6 rv hv) (hn : base ≤ n) (hX : ∀ k, TX tb d k → k < n) (f : Fr V W (fun k => row = some k)) (hrw : ∀ r, row = some r → n ≤ r ∧ ∃ o : Obj, V.heap[r]? = some o ∧ o.isCells = false) : OS base o cur w W tb d b4 b5 b6 rv hv := by
  have ho := own_off (B := W) hrw
  exact ⟨h.ts.fr f (fun k hk e => by have := hX k hk; have := (hrw k e).1; omega), bx_frz h.x4 f (ho _ (bx_isc h.x4)), bx_frz h.x5 f (ho _ (bx_isc h.x5)), bx_frz h.x6 f (ho _ (bx_isc h.x6)), h.n4, h.n5, h.n6, h.fr.two (f.mono (fun k _ e => by have := (hrw k e).1; omega))⟩
theorem m1_own {base o : Nat} {cur : Int} {w : World} {tb : Nat} {dx : Kd} {b4 b5 b6 : Nat} {rv hv : Value} {b13 b14 : Nat} {G : List It} {n : Nat} (hn : base ≤ n) (hX : ∀ k, TX tb dx k → k < n) : OwnFrom n (fun (pre : List (In G)) W => M1 base o cur w tb dx b4 b5 b6 rv hv b13 b14 pre W) := by
  rintro pre A B row ⟨h, ⟨la, lc, L, h13, hL, hk, hP, hLl⟩, h14⟩ hg hrw
  have f := Fr.grown hg
  have ho := own_off (B := B) hrw
  exact ⟨h.off hn hX f hrw, ⟨la, lc, L, bx_frz h13 f (ho _ (bx_isc h13)), hL.fr f (fun k hk => ho k (own_isc hL k hk)), hk, hP, hLl⟩, bx_frz h14 f (ho _ (bx_isc h14))⟩
/-- How it is left. -/
def X1 {G : List It} (c : Code) (pre : List (In G)) (W : World) (R : World → Prop) : Prop := c = .ret ∧ ¬ pre.map (fun x => x.1) <+: G
theorem last_pair {G : List It} {pre : List (In G)} {x y : In G} (hs : Srt G) (hy : pre.getLast? = some y) (hp : (pre ++ [x]).map (fun x => x.1) <+: G) : kc y.1.key x.1.key < 0 := by
  obtain ⟨q, rfl⟩ : ∃ q, pre = q ++ [y] := by
    rw [List.getLast?_eq_some_iff] at hy
    exact hy
  obtain ⟨t, ht⟩ := hp
  rw [← ht] at hs
  simp only [List.map_append, List.map_cons, List.map_nil, List.append_assoc] at hs
  have h2 := hs.app.2.1
  exact h2.cons.1 x.1 (by simp)
theorem M1.q {base o : Nat} {cur : Int} {w V W : World} {tb : Nat} {dx : Kd} {b4 b5 b6 : Nat} {rv hv : Value} {b13 b14 : Nat} {G : List It} {pre : List (In G)} (h : M1 base o cur w tb dx b4 b5 b6 rv hv b13 b14 pre V) (f : Fr V W (fun _ => False)) : M1 base o cur w tb dx b4 b5 b6 rv hv b13 b14 pre W := by
  obtain ⟨h1, ⟨la, lc, L, h13, hL, hk, hP, hLl⟩, h14⟩ := h
  exact ⟨h1.q f, ⟨la, lc, L, bx_frz h13 f (fun h => h), hL.fr f (fun _ _ h => h), hk, hP, hLl⟩, bx_frz h14 f (fun h => h)⟩
theorem m1_next {base o : Nat} {cur : Int} {w V : World} {tb : Nat} {dx : Kd} {b4 b5 b6 : Nat} {rv hv : Value} {b13 b14 : Nat} {G : List It} {pre : List (In G)} {x : In G} (h : M1 base o cur w tb dx b4 b5 b6 rv hv b13 b14 pre V)
    (hn : ¬ TX tb dx b13 ∧ ¬ TX tb dx b14) (hb : base ≤ b13 ∧ b13 < b14 ∧ b13 ≠ b4 ∧ b13 ≠ b5 ∧ b13 ≠ b6 ∧ b14 ≠ b4 ∧ b14 ≠ b5 ∧ b14 ≠ b6) {R : List Val} {av : Option Addr} {cv : Nat} (hO : OwnV V (.slice av R.length cv) R) (hne : ∀ k, (Value.slice av R.length cv).ownBlock = some k → k ≠ b13 ∧ k ≠ b14 ∧ base ≤ k) (hx : checkL R = 0 ∧ Wf R ∧ x.1.key = strOf (encL R)) (hR : R.length ≤ 1048576) {n : Nat} (hnn : n = (pre ++ [x]).length) {V6 V7 : World} (h6 : V6 = V.setCell ⟨b13, 0, none⟩ (.slice av R.length cv)) (h7 : V7 = V6.setCell ⟨b14, 0, none⟩ (.int .i64 ((n : Nat) : Int))) :
    M1 base o cur w tb dx b4 b5 b6 rv hv b13 b14 (pre ++ [x]) V7 ∧ Fr V V7 (fun k => k = b13 ∨ k = b14) := by
  obtain ⟨h1, ⟨la, lc, L, h13, hL, hk, hP, hLl⟩, h14⟩ := h
  have f6 : Fr V V6 (fun k => k = b13) := by rw [h6]; exact Fr.setCell _ _ _
  have f7 : Fr V6 V7 (fun k => k = b14) := by rw [h7]; exact Fr.setCell _ _ _
  have f67 : Fr V V7 (fun k => k = b13 ∨ k = b14) := f6.trans f7
  have y13 : Boxed V6 b13 23 (.slice av R.length cv) := by rw [h6]; exact bx_put h13 _
  have y14 : Boxed V6 b14 3 (.int .i64 (pre.length : Int)) := bx_frz h14 f6 (by omega)
  refine ⟨⟨h1.z f67 (fun k hk => ?_), ⟨av, cv, R, bx_frz y13 f7 (by omega), hO.fr f67 (fun k hk h => h.elim (hne k hk).1 (hne k hk).2.1), fun k hk => (hne k (by rw [hk]; rfl)).2.2, fun y hy => ?_, hR⟩, ?_⟩, f67⟩
  · rcases hk with rfl | rfl
    · exact ⟨hn.1, by omega, by omega, by omega, by omega⟩
    · exact ⟨hn.2, by omega, by omega, by omega, by omega⟩
  · simp only [List.getLast?_append, List.getLast?_singleton, Option.some_or, Option.some.injEq] at hy
    subst hy
    exact hx
  · rw [← hnn, h7]; exact bx_put y14 _
/-- While the second and the third range go on. -/
structure M2 (base o : Nat) (cur : Int) (w : World) (tb : Nat) (dx : Kd) (b4 b5 b6 : Nat) (rv hv : Value) (b21 : Nat) (Ds : List Nat) (cnt : Int) (W : World) : Prop where
  os : OS base o cur w W tb dx b4 b5 b6 rv hv
  cn : Boxed W b21 3 (.int .i64 cnt)
  ds : ∀ D ∈ Ds, W.heap[D]? = some (.deferred (some []))
theorem M2.q {base o : Nat} {cur : Int} {w V W : World} {tb : Nat} {dx : Kd} {b4 b5 b6 : Nat} {rv hv : Value} {b21 : Nat} {Ds : List Nat} {cnt : Int} (h : M2 base o cur w tb dx b4 b5 b6 rv hv b21 Ds cnt V) (f : Fr V W (fun _ => False)) : M2 base o cur w tb dx b4 b5 b6 rv hv b21 Ds cnt W :=
  ⟨h.os.q f, bx_frz h.cn f (fun h => h), fun D hD => (f.block D (Array.getElem?_eq_some_iff.1 (h.ds D hD)).1 (fun h => h)).trans (h.ds D hD)⟩
theorem def_ne {W : World} {D k : Nat} (h : W.heap[D]? = some (.deferred (some []))) (hk : IsC W k) : D ≠ k := fun e => by
  obtain ⟨o, h1, h2⟩ := hk
  rw [← e, h] at h1
  cases h1
  cases h2
theorem M2.off {base o : Nat} {cur : Int} {w : World} {tb : Nat} {dx : Kd} {b4 b5 b6 : Nat} {rv hv : Value} {b21 n : Nat} {Ds : List Nat} {cnt : Int} {A B : World} {row : Option Nat} (h : M2 base o cur w tb dx b4 b5 b6 rv hv b21 Ds cnt A) (hn : base ≤ n) (hX : ∀ k, TX tb dx k → k < n) (hD : ∀ D ∈ Ds, D < n) (f : Fr A B (fun k => row = some k)) (hrw : ∀ r, row = some r → n ≤ r ∧ ∃ o : Obj, A.heap[r]? = some o ∧ o.isCells = false) : M2 base o cur w tb dx b4 b5 b6 rv hv b21 Ds cnt B := by
  have ho := own_off (B := B) hrw
  exact ⟨h.os.off hn hX f hrw, bx_frz h.cn f (ho _ (bx_isc h.cn)), fun D hD' => (f.block D (Array.getElem?_eq_some_iff.1 (h.ds D hD')).1 (fun e => by have := hD D hD'; have := (hrw D e).1; omega)).trans (h.ds D hD')⟩
theorem m2_set {base o : Nat} {cur : Int} {w V V2 : World} {tb : Nat} {dx : Kd} {b4 b5 b6 : Nat} {rv hv : Value} {b21 : Nat} {Ds : List Nat} {cnt cnt' : Int} (h : M2 base o cur w tb dx b4 b5 b6 rv hv b21 Ds cnt V) (hn : ¬ TX tb dx b21 ∧ b21 ≠ b4 ∧ b21 ≠ b5 ∧ b21 ≠ b6 ∧ base ≤ b21) (h2 : V2 = V.setCell ⟨b21, 0, none⟩ (.int .i64 cnt')) : M2 base o cur w tb dx b4 b5 b6 rv hv b21 Ds cnt' V2 ∧ Fr V V2 (fun k => k = b21) := by
  have f : Fr V V2 (fun k => k = b21) := by rw [h2]; exact Fr.setCell _ _ _
  refine ⟨⟨h.os.z f (fun k hk => by rw [hk]; exact hn), by rw [h2]; exact bx_put h.cn _, fun D hD => ?_⟩, f⟩
  exact (f.block D (Array.getElem?_eq_some_iff.1 (h.ds D hD)).1 (fun e => def_ne (h.ds D hD) (bx_isc h.cn) e)).trans (h.ds D hD)
def pfx (hd to k : ByteArray) : Bool := decide (0 ≤ kc k hd) && upto to k
theorem rng_pfx (hd to : ByteArray) (F : List It) : rng hd to F = F.filter (fun x => pfx hd to x.key) := rfl
def cntP {G : List It} (hd to : ByteArray) (pre : List (In G)) : Nat := (pre.filter (fun x => pfx hd to x.1.key)).length
theorem cntP_snoc {G : List It} (hd to : ByteArray) (pre : List (In G)) (x : In G) : cntP hd to (pre ++ [x]) = cntP hd to pre + (if pfx hd to x.1.key = true then 1 else 0) := by
  unfold cntP
  rw [List.filter_append, List.length_append]
  congr 1
  by_cases h : pfx hd to x.1.key = true
  · simp [h]
  · simp [h]
theorem cntP_all {G : List It} (hd to : ByteArray) (xs : List (In G)) (h : xs.map (fun x => x.1) = G) : cntP hd to xs = (rng hd to G).length := by
  rw [rng_pfx]
  have h2 : ((xs.map (fun x => x.1)).filter (fun x => pfx hd to x.key)).length = cntP hd to xs := by rw [List.filter_map, List.length_map]; rfl
  have h3 := congrArg (fun l => (l.filter (fun x : It => pfx hd to x.key)).length) h
  exact h2.symm.trans h3
theorem cntP_le {G : List It} (hd to : ByteArray) (pre : List (In G)) : cntP hd to pre ≤ pre.length := List.length_filter_le _ _
theorem strOf_snoc (l : List UInt8) : strOf l ++ ⟨#[255]⟩ = strOf (l ++ [255]) := by
  have h : (strOf l ++ ⟨#[255]⟩).data.toList = (strOf (l ++ [255])).data.toList := by
    rw [strOf_data, ByteArray.data_append, Array.toList_append, strOf_data]
  cases h1 : strOf l ++ ⟨#[255]⟩ with | mk a =>
  cases h2 : strOf (l ++ [255]) with | mk b =>
  rw [h1, h2] at h
  simp only at h
  rw [Array.toList_inj.1 h]
end Go.Proofs.Ytiicgfipmdgnhaa
