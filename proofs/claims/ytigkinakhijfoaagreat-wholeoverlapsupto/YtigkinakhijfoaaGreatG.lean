/- slices.Insert at rows of items and of kids: one element more. -/
import Derived.Test.YtigkinakhijfoaaGreatF
import Derived.Shelf.Spec.SlicesInsert
namespace Go.Proofs.YtigkinakhijfoaaGreat
open Go.RowKit
set_option maxRecDepth 100000
set_option linter.unusedVariables false
set_option linter.unusedSimpArgs false

theorem wp_copy_to {P : Program} {o : Oper} {a : Act} {w : World} {K : Act → World → Prop} {Q : Exit → Act → World → Prop} (s x : Operand) (t : TypeId)
    (ho : o.op = .call { callee := .builtin .copy, args := #[s, x], argTypes := #[t, t] }) (d : Option Tmp) (hd : o.dst = d) (ty : TypeId) (hty : o.type = ty) (v1 v2 : Value) (hs : a.eval s = v1) (hx : a.eval x = v2)
    (v' : Value) (w' : World) (hr : (Builtin.copy_ #[t, t] ty #[v1, v2]).run P w = .ok v' w') (hK : K (a.put d v') w') : o.wp P a w K Q := by
  subst hd
  subst hty
  unfold Oper.wp execOp
  simp only [ho, resolve, invoke, builtin, Sem.run_bind, Sem.run_pure, Result.andThen_ok, List.map_toArray, List.map_cons, List.map_nil, hs, hx, hr]
  exact hK
theorem wp_grow_to {P : Program} {o : Oper} {a : Act} {w : World} {K : Act → World → Prop} {Q : Exit → Act → World → Prop} (s x : Operand) (t t' : TypeId)
    (ho : o.op = .call { callee := .builtin .append, args := #[s, x], argTypes := #[t, t'] }) (d : Option Tmp) (hd : o.dst = d) (ty : TypeId) (hty : o.type = ty) (v1 v2 : Value) (hs : a.eval s = v1) (hx : a.eval x = v2)
    (v' : Value) (w' : World) (hr : (Builtin.append_ #[t, t'] ty #[v1, v2]).run P w = .ok v' w') (hK : K (a.put d v') w') : o.wp P a w K Q := by
  subst hd
  subst hty
  unfold Oper.wp execOp
  simp only [ho, resolve, invoke, builtin, Sem.run_bind, Sem.run_pure, Result.andThen_ok, List.map_toArray, List.map_cons, List.map_nil, hs, hx, hr]
  exact hK
theorem run_copyI (w : World) (ty : TypeId) (b o dLen dCap : Nat) (a : Addr) (sLen sCap : Nat) (cs : List Value) (hn : cs.length = Nat.min sLen dLen * 2) (hsrc : ∀ (j : Nat) (v : Value), cs[j]? = some v → w.cell? (a.add j) = some v)
    (hc : ∀ j, j < cs.length → (w.cell? ⟨b, o + j, none⟩).isSome = true) (hf : ∀ j, j < cs.length → w.frozen? ⟨b, o + j, none⟩ = false) (h1 : ∀ v ∈ cs, v.oneCell' = true) :
    (Builtin.copy_ #[75, 75] ty #[.slice (some ⟨b, o, none⟩) dLen dCap, .slice (some a) sLen sCap]).run Tryz.prog w = .ok (goInt (Nat.min sLen dLen)) (w.setCells b o cs) := by
  have hl := run_loadCells_list (P := Tryz.prog) w a cs hsrc
  have hst := run_storeCells_cells (P := Tryz.prog) b o cs 0 w (by simpa using hc) (by simpa using hf) h1
  obtain ⟨i, hi, _, hsz, _⟩ := full75
  simp [Builtin.copy_, run_underlying Tryz.underlying75, Builtin.lenOf, Builtin.firstCells, sizeOf, typeInfo, hi, hsz, ← hn, hl, hst]
/-- One element more in a row. -/
def InsI (w : World) (v : Value) (n i : Nat) (xs ys : List Value) (e : Ending) (w' : World) : Prop := ∃ v', e = .returned v' ∧ w'.ownsRow 0 106 2 v' (n + 1) (xs.take (i * 2) ++ ys ++ xs.drop (i * 2)) ∧ Fresh w v v' ∧ Fr w w' (fun k => v.ownBlock = some k)
theorem ht59 : Tryz.prog.underlying 75 = some (.slice (Tryz.prog.elem 75)) := by
  have hel : Tryz.prog.elem 75 = 106 := by kernel_rfl
  rw [hel]; exact Tryz.underlying75
theorem size_elem59 (W : World) : (sizeOf (Tryz.prog.elem 75)).run Tryz.prog W = .ok 2 W := by
  have hel : Tryz.prog.elem 75 = 106 := by kernel_rfl
  obtain ⟨i, hi, _, hs5, _⟩ := full75
  rw [hel]
  simp [sizeOf, typeInfo, hi, hs5]
theorem tailI (a : Option Addr) (n c : Nat) (i : Nat) (hi : i ≤ n) : ∃ u, ∀ V, (Instr.slice 75 (.slice a n c) (some (.int .i64 (i : Int))) none none).run Tryz.prog V = .ok u V :=
  ⟨_, fun V => by rw [run_slice_l (P := Tryz.prog) V 75 _ n c ht59 .i64 (i : Int) (by omega) (by omega), size_elem59]; rfl⟩
set_option maxHeartbeats 4000000 in
theorem insert_endI {w : World} (v : Value) (n : Nat) (xs : List Value) (hr : w.ownsRow 0 106 2 v n xs) (hb : n ≤ 1048576) (vb : Nat) (ys : List Value) (hvb : w.heap[vb]? = some (.cells ys.toArray 106 (0, 0))) (hyl : ys.length = 2) (hy1 : ∀ u ∈ ys, u.oneCell' = true) : Calls Tryz.prog 54 #[v, .int .i64 (n : Int), .slice (some ⟨vb, 0, none⟩) 1 1] w (InsI w v n n xs ys) := by
  obtain ⟨ti, hti, hz, hsz, hby⟩ := full75
  obtain ⟨v', W', hrun, q1, q2, q3⟩ := run_append_gen (P := Tryz.prog) w 75 75 106 ti _ 2 24 Tryz.underlying75 hti hz hsz hby rfl (by omega) v n xs hr ⟨vb, 0, none⟩ 1 1 ys (by rw [hyl]) (fun j u hu => by
    rw [Addr.add_mid, Nat.zero_add, block_cell hvb]; simpa using hu) hy1 (by unfold maxLen; omega) (by omega)
  obtain ⟨a, c, rfl⟩ := shape_n hr
  obtain ⟨U, htl⟩ := tailI a n c n (Nat.le_refl _)
  obtain ⟨a', c', rfl⟩ := shape_n q1
  have HRES : Hid (InsI w (.slice a n c) n n xs ys (.returned (.slice a' (n + 1) c')) W') := hide ⟨_, rfl, by
    rw [List.take_of_length_le (by rw [hr.1]; omega), List.drop_of_length_le (by rw [hr.1]; omega), List.append_nil]
    exact q1, q3, (Fr.grown q2).mono (fun k _ h => h)⟩
  obtain ⟨n1, hn1⟩ : ∃ n1, n1 = n + 1 := ⟨_, rfl⟩
  rw [← hn1] at HRES hrun
  have hbe : ((n : Int) == (n : Int)) = true := by simp
  clear hr hvb hyl hy1 q1 q2 q3 hti hz hsz hby hn1
  go_enter Tryz.func54, Tryz.ntmps54
  go_wp2_with (refine wpList_plain rfl fun _ hK => wp_append_to (.tmp 23) (.tmp 24) 75 rfl _ rfl _ rfl (.slice a n c) (.slice (some ⟨vb, 0, none⟩) 1 1) rfl rfl _ _ hrun (hK _ _ ?_); clear hK)
  go_ret
  exact HRES.out
set_option maxHeartbeats 4000000 in
theorem insert_growI {w : World} (g n cap : Nat) (cur : Array Value) (xs : List Value) (hg : w.heap[g]? = some (.cells cur 106 (0, 0))) (hnc : n ≤ cap) (hcs : cur.size = cap * 2) (htk : cur.toList.take (n * 2) = xs) (h1 : ∀ u ∈ xs, u.oneCell' = true) (hb : n ≤ 1048576) (i : Nat) (hi : i < n) (hroom : cap < n + 1) (vb : Nat) (ys : List Value) (hvb : w.heap[vb]? = some (.cells ys.toArray 106 (0, 0))) (hyl : ys.length = 2) (hy1 : ∀ u ∈ ys, u.oneCell' = true) : Calls Tryz.prog 54 #[.slice (some ⟨g, 0, none⟩) n cap, .int .i64 (i : Int), .slice (some ⟨vb, 0, none⟩) 1 1] w (InsI w (.slice (some ⟨g, 0, none⟩) n cap) n i xs ys) := by
  obtain rfl : cap = n := by omega
  have hcl : cur.toList.length = cap * 2 := by simpa using hcs
  have hxc : cur.toList = xs := by rw [← htk, List.take_of_length_le (by omega)]
  have hxl : xs.length = cap * 2 := by rw [← hxc]; exact hcl
  obtain ⟨ti, hti, hz, hsz, hby⟩ := full75
  have hgl : g < w.heap.size := (Array.getElem?_eq_some_iff.1 hg).1
  have hvl : vb < w.heap.size := (Array.getElem?_eq_some_iff.1 hvb).1
  have hold : (Builtin.firstCells ti.size i (.slice (some ⟨g, 0, none⟩) i cap)).run Tryz.prog w.drew = .ok (xs.take (i * 2)).toArray w.drew := by
    rw [hsz]
    exact run_firstCells_some w.drew 2 i ⟨g, 0, none⟩ i cap (xs.take (i * 2)) (by rw [List.length_take]; omega) (fun j u hj => by
      rw [Addr.add_mid, Nat.zero_add, block_cell (w := w.drew) hg, hxc]
      rw [List.getElem?_take] at hj
      split at hj
      · exact hj
      · cases hj)
  obtain ⟨k, hk⟩ : ∃ k, k = cap + 1 - i := ⟨_, rfl⟩
  have hik : i + k = cap + 1 := by omega
  have hgr := Lib.run_append_grow_zeros w 75 3 75 106 ti _ .i64 .i64 Tryz.underlying75 Tryz.underlying3 hti hz (some ⟨g, 0, none⟩) i cap (xs.take (i * 2)) hold k (by omega) (by rw [hsz]; omega) (by omega) (by omega) (by rw [hby]; omega) (by rw [hby, hik]; exact growslice_fits (by omega) (by omega))
  rw [hik] at hgr
  obtain ⟨G, hG⟩ : ∃ G, G = grownCap w (cap + 1) cap 106 := ⟨_, rfl⟩
  have hGn : cap + 1 ≤ G := by rw [hG]; exact grownCap_ge w _ _ _
  have hG63 : G ≤ maxLen := by rw [hG]; exact grownCap_le_maxLen w _ _ _ (by unfold maxLen; omega)
  rw [← hG] at hgr
  obtain ⟨ROW, hROW⟩ : ∃ ROW : Array Value, ROW = (xs.take (i * 2)).toArray ++ Builtin.zeroCells (Value.agg #[.string ⟨#[]⟩, .int .i64 0]).cells k ++ Builtin.zeroCells (Value.agg #[.string ⟨#[]⟩, .int .i64 0]).cells (G - (cap + 1)) := ⟨_, rfl⟩
  have hti2 : (xs.take (i * 2)).length = i * 2 := by rw [List.length_take]; omega
  have hRl : ROW.size = G * 2 := by
    rw [hROW, Array.size_append, Array.size_append]
    have z1 := (zerosI k).1
    have z2 := (zerosI (G - (cap + 1))).1
    simp only [Array.length_toList] at z1 z2
    rw [z1, z2]
    simp only [List.size_toArray, hti2]
    omega
  have hRt : ROW.toList.take (i * 2) = xs.take (i * 2) := by
    rw [hROW]
    simp only [Array.toList_append, List.append_assoc]
    exact take_app hti2
  rw [← hROW] at hgr
  obtain ⟨W1, hW1⟩ : ∃ W1, W1 = w.drew.alloc (.cells ROW 106) := ⟨_, rfl⟩
  rw [← hW1] at hgr
  have b1 : W1.heap[w.heap.size]? = some (.cells ROW 106 (0, 0)) := by rw [hW1]; exact heap_alloc_new w.drew _
  have f1 : Fr w W1 (fun _ => False) := by rw [hW1]; exact (Fr.drew w _).two (Fr.alloc _ _ _)
  obtain ⟨W2, hW2⟩ : ∃ W2, W2 = W1.setCells w.heap.size (i * 2) ys := ⟨_, rfl⟩
  obtain ⟨C2, b2, s2, l2⟩ := setCells_at w.heap.size 106 (0, 0) ys (i * 2) W1 ROW b1 (by rw [hyl, hRl]; omega)
  rw [← hW2] at b2
  have f2 : Fr W1 W2 (fun k => k = w.heap.size) := by rw [hW2]; exact setCells_fr _ _ _ _
  have hcpA : ∀ ty dc, (Builtin.copy_ #[75, 75] ty #[.slice (some ⟨w.heap.size, i * 2, none⟩) (cap + 1 - i) dc, .slice (some ⟨vb, 0, none⟩) 1 1]).run Tryz.prog W1 = .ok (goInt (Nat.min 1 (cap + 1 - i))) W2 := fun ty dc => by
    rw [hW2]
    exact run_copyI W1 ty _ _ _ _ _ _ _ ys (by rw [hyl, show Nat.min 1 (cap + 1 - i) = 1 from Nat.min_eq_left (by omega)]) (fun j u hu => by
      rw [Addr.add_mid, Nat.zero_add]
      exact f1.cell (fun h => h) (by rw [block_cell hvb]; simpa using hu)) (fun j hj => by rw [hyl] at hj; rw [block_cell b1, List.getElem?_eq_getElem (by simp; rw [hRl]; omega)]; rfl) (fun j _ => block_frozen b1 _) hy1
  obtain ⟨W3, hW3⟩ : ∃ W3, W3 = W2.drew.setCells w.heap.size ((i + 1) * 2) (xs.drop (i * 2)) := ⟨_, rfl⟩
  have hdl : (xs.drop (i * 2)).length = (cap - i) * 2 := by rw [List.length_drop, hxl]; omega
  have b2d : W2.drew.heap[w.heap.size]? = some (.cells C2 106 (0, 0)) := b2
  obtain ⟨C3, b3, s3, l3⟩ := setCells_at w.heap.size 106 (0, 0) (xs.drop (i * 2)) ((i + 1) * 2) W2.drew C2 b2d (by rw [hdl, s2, hRl]; omega)
  rw [← hW3] at b3
  have f3 : Fr W2 W3 (fun k => k = w.heap.size) := by rw [hW3]; exact (Fr.drew W2 _).two (setCells_fr _ _ _ _)
  have hcpB : ∀ ty dc sc, (Builtin.copy_ #[75, 75] ty #[.slice (some ⟨w.heap.size, (i + 1) * 2, none⟩) (cap + 1 - (i + 1)) dc, .slice (some ⟨g, i * 2, none⟩) (cap - i) sc]).run Tryz.prog W2.drew = .ok (goInt (Nat.min (cap - i) (cap + 1 - (i + 1)))) W3 := fun ty dc sc => by
    rw [hW3]
    exact run_copyI W2.drew ty _ _ _ _ _ _ _ (xs.drop (i * 2)) (by rw [hdl, show Nat.min (cap - i) (cap + 1 - (i + 1)) = cap - i from Nat.min_eq_left (by omega)]) (fun j u hu => by
      rw [Addr.add_mid]
      rw [List.getElem?_drop] at hu
      exact (Fr.drew W2 (fun _ => False)).cell (fun h => h) (f2.cell (by omega) (f1.cell (fun h => h) (by rw [block_cell hg, hxc]; exact hu)))) (fun j hj => by rw [hdl] at hj; rw [block_cell b2d, List.getElem?_eq_getElem (by simp; rw [s2, hRl]; omega)]; rfl) (fun j _ => block_frozen b2d _) (fun u hu => h1 u (List.mem_of_mem_drop hu))
  have hfrx : Fr w W3 (fun k => (Value.slice (some ⟨g, 0, none⟩) cap cap).ownBlock = some k) := ((f1.trans f2).trans f3).mono (fun k hk h => by
    rcases h with (h | h) | h
    · exact h.elim
    · have h' : k = w.heap.size := h
      omega
    · have h' : k = w.heap.size := h
      omega)
  have HRES : Hid (InsI w (.slice (some ⟨g, 0, none⟩) cap cap) cap i xs ys (.returned (.slice (some ⟨w.heap.size, 0, none⟩) (cap + 1) G)) W3) := hide ⟨_, rfl, by
      refine ⟨by rw [List.length_append, List.length_append, hti2, hyl, hdl]; omega, .inr ⟨w.heap.size, G, C3, rfl, Nat.zero_le _, b3, hGn, hG63, by rw [s3, s2, hRl], ?_⟩⟩
      have e2 : C2.toList.take ((i + 1) * 2) = xs.take (i * 2) ++ ys := by
        rw [l2, hRt]
        exact take_app (by rw [List.length_append, hti2, hyl]; omega)
      rw [l3, e2]
      exact take_app (by rw [List.length_append, List.length_append, hti2, hyl, hdl]; omega), .inr ⟨w.heap.size, rfl, Nat.le_refl _⟩, hfrx⟩
  have hkk : (cap : Int) + 1 - (i : Int) = (k : Int) := by omega
  have HGR := hide hgr
  obtain ⟨n1, hn1⟩ : ∃ n1, n1 = cap + 1 := ⟨_, rfl⟩
  obtain ⟨i1, hi1⟩ : ∃ i1, i1 = i + 1 := ⟨_, rfl⟩
  rw [← hn1] at HGR HRES hcpA
  rw [← hn1, ← hi1] at hcpB
  have hi1i : (i : Int) + 1 = (i1 : Int) := by omega
  have hn1i : (cap : Int) + 1 = (n1 : Int) := by omega
  have hn1k : (n1 : Int) - (i : Int) = (k : Int) := by omega
  have hz2 : ¬ ((i : Int) = (cap : Int)) := by omega
  have hz2b : ((i : Int) == (cap : Int)) = false := by simp; omega
  have hz3 : (cap : Int) < (n1 : Int) := by omega
  have hGi : ¬ (G = i) := by omega
  have hGim : ¬ (G = i1) := by omega
  have hci : ¬ (cap = i) := by omega
  have hin : i ≤ cap := by omega
  have hi1n : i1 ≤ n1 := by omega
  have hinn : i ≤ n1 := by omega
  have hGG : n1 ≤ G := by omega
  have hiG : i ≤ G := by omega
  have hi1G : i1 ≤ G := by omega
  have hGm : G ≤ 9223372036854775807 := by unfold maxLen at hG63; omega
  have hn1b : n1 ≤ 1048577 := by omega
  have hi1b : i1 ≤ 1048577 := by omega
  have hw1 : IntKind.i64.wrap (n1 : Int) = (n1 : Int) := by rw [IntKind.wrap_i64]; omega
  have hw2 : IntKind.i64.wrap (i1 : Int) = (i1 : Int) := by rw [IntKind.wrap_i64]; omega
  have hw3 : IntKind.i64.wrap (k : Int) = (k : Int) := by rw [IntKind.wrap_i64]; omega
  generalize hB : w.heap.size = B at *
  clear hcl hxc hxl hti hz hsz hby hgl hvl hold hk hik hgr hG hGn hG63 hROW hti2 hRl hRt hW1 b1 f1 hW2 b2 s2 l2 f2 hdl b2d b3 s3 l3 f3 hfrx hkk hn1 hi1 hB hg hcs htk h1 hvb hyl hy1 hnc hroom hW3
  go_enter Tryz.func54, Tryz.ntmps54
  go_wp2_with (first
    | (refine wpList_plain rfl fun _ hK => wp_grow_to (.tmp 34) (.tmp 39) 75 3 rfl _ rfl _ rfl (.slice (some ⟨g, 0, none⟩) i cap) (.int .i64 (k : Int)) rfl rfl _ _ HGR.out (hK _ _ ?_); clear hK)
    | (refine wpList_plain rfl fun _ hK => wp_copy_to (.tmp 43) (.tmp 44) 75 rfl _ rfl _ rfl _ _ rfl rfl _ _ (hcpA _ _) (hK _ _ ?_); clear hK))
  refine wp_region_K (fun z => decide (z < 8)) (fun U : World => U = W2.drew) (by kernel_rfl) ?_
  have hS : (fun U : World => U = W2.drew) W2.drew := rfl
  refine wpAnyK_takeTo 0 (some 46) (.slice (some ⟨B, 0, none⟩) n1 G) [4, 8] rfl rfl (by kernel_rfl) (by kernel_rfl) (by kernel_rfl) (by kernel_rfl) (fun _ _ _ h => h) hS (Or.inl ⟨rfl, fun w1 hw1 => by go_simp⟩) ?_
  simp only [Act.put, List.setIfInBounds_toArray, List.set_cons_zero, List.set_cons_succ]
  refine wpAnyK_takeTo 1 (some 47) (.int .i64 (i : Int)) [3, 4, 8] rfl rfl (by kernel_rfl) (by kernel_rfl) (by kernel_rfl) (by kernel_rfl) (fun _ _ _ h => h) hS (Or.inl ⟨rfl, fun w1 hw1 => by go_simp⟩) ?_
  simp only [Act.put, List.setIfInBounds_toArray, List.set_cons_zero, List.set_cons_succ]
  refine wpAnyK_takeTo 2 (some 48) (.int .i64 1) [3, 4, 8] rfl rfl (by kernel_rfl) (by kernel_rfl) (by kernel_rfl) (by kernel_rfl) (fun _ _ _ h => h) hS (Or.inl ⟨rfl, fun w1 hw1 => by go_simp⟩) ?_
  simp only [Act.put, List.setIfInBounds_toArray, List.set_cons_zero, List.set_cons_succ]
  refine wpAnyK_takeTo 3 (some 49) (.int .i64 (i1 : Int)) [4, 8] rfl rfl (by kernel_rfl) (by kernel_rfl) (by kernel_rfl) (by kernel_rfl) (fun _ _ _ h => h) hS (Or.inl ⟨rfl, fun w1 hw1 => by go_simp⟩) ?_
  simp only [Act.put, List.setIfInBounds_toArray, List.set_cons_zero, List.set_cons_succ]
  refine wpAnyK_takeTo 4 (some 50) (.slice (some ⟨B, i1 * 2, none⟩) (n1 - i1) (G - i1)) [8] rfl rfl (by kernel_rfl) (by kernel_rfl) (by kernel_rfl) (by kernel_rfl) (fun _ _ _ h => h) hS (Or.inl ⟨rfl, fun w1 hw1 => by go_simp⟩) ?_
  simp only [Act.put, List.setIfInBounds_toArray, List.set_cons_zero, List.set_cons_succ]
  refine wpAnyK_takeTo 5 (some 51) (.slice (some ⟨g, 0, none⟩) cap cap) [7, 8] rfl rfl (by kernel_rfl) (by kernel_rfl) (by kernel_rfl) (by kernel_rfl) (fun _ _ _ h => h) hS (Or.inl ⟨rfl, fun w1 hw1 => by go_simp⟩) ?_
  simp only [Act.put, List.setIfInBounds_toArray, List.set_cons_zero, List.set_cons_succ]
  refine wpAnyK_takeTo 6 (some 52) (.int .i64 (i : Int)) [7, 8] rfl rfl (by kernel_rfl) (by kernel_rfl) (by kernel_rfl) (by kernel_rfl) (fun _ _ _ h => h) hS (Or.inl ⟨rfl, fun w1 hw1 => by go_simp⟩) ?_
  simp only [Act.put, List.setIfInBounds_toArray, List.set_cons_zero, List.set_cons_succ]
  refine wpAnyK_takeTo 7 (some 53) (.slice (some ⟨g, i * 2, none⟩) (cap - i) (cap - i)) [8] rfl rfl (by kernel_rfl) (by kernel_rfl) (by kernel_rfl) (by kernel_rfl) (fun _ _ _ h => h) hS (Or.inl ⟨rfl, fun w1 hw1 => by go_simp⟩) ?_
  simp only [Act.put, List.setIfInBounds_toArray, List.set_cons_zero, List.set_cons_succ]
  refine wpAnyK_one (i := 8) (by kernel_rfl) rfl rfl ?_
  refine wp_copy_to (.tmp 50) (.tmp 53) 75 rfl _ rfl _ rfl _ _ rfl rfl _ _ (hcpB _ _ _) ⟨fun h => by simp at h, ?_⟩
  simp only [Act.put, List.setIfInBounds_toArray, List.set_cons_zero, List.set_cons_succ]
  refine wpAnyK_done (by kernel_rfl) ?_ _
  clear hS hcpA hcpB HGR
  go_wp2
  go_ret
  exact HRES.out
theorem run_copyK (w : World) (ty : TypeId) (b o dLen dCap : Nat) (a : Addr) (sLen sCap : Nat) (cs : List Value) (hn : cs.length = Nat.min sLen dLen * 1) (hsrc : ∀ (j : Nat) (v : Value), cs[j]? = some v → w.cell? (a.add j) = some v)
    (hc : ∀ j, j < cs.length → (w.cell? ⟨b, o + j, none⟩).isSome = true) (hf : ∀ j, j < cs.length → w.frozen? ⟨b, o + j, none⟩ = false) (h1 : ∀ v ∈ cs, v.oneCell' = true) :
    (Builtin.copy_ #[76, 76] ty #[.slice (some ⟨b, o, none⟩) dLen dCap, .slice (some a) sLen sCap]).run Tryz.prog w = .ok (goInt (Nat.min sLen dLen)) (w.setCells b o cs) := by
  have hl := run_loadCells_list (P := Tryz.prog) w a cs hsrc
  have hst := run_storeCells_cells (P := Tryz.prog) b o cs 0 w (by simpa using hc) (by simpa using hf) h1
  obtain ⟨i, hi, _, hsz, _⟩ := full58
  simp [Builtin.copy_, run_underlying Tryz.underlying76, Builtin.lenOf, Builtin.firstCells, sizeOf, typeInfo, hi, hsz, ← hn, hl, hst]
/-- One element more in a row. -/
def InsK (w : World) (v : Value) (n i : Nat) (xs ys : List Value) (e : Ending) (w' : World) : Prop := ∃ v', e = .returned v' ∧ w'.ownsRow 0 74 1 v' (n + 1) (xs.take (i * 1) ++ ys ++ xs.drop (i * 1)) ∧ Fresh w v v' ∧ Fr w w' (fun k => v.ownBlock = some k)
theorem ht60 : Tryz.prog.underlying 76 = some (.slice (Tryz.prog.elem 76)) := by
  have hel : Tryz.prog.elem 76 = 74 := by kernel_rfl
  rw [hel]; exact Tryz.underlying76
theorem size_elem60 (W : World) : (sizeOf (Tryz.prog.elem 76)).run Tryz.prog W = .ok 1 W := by
  have hel : Tryz.prog.elem 76 = 74 := by kernel_rfl
  obtain ⟨i, hi, _, hs5, _⟩ := full58
  rw [hel]
  simp [sizeOf, typeInfo, hi, hs5]
theorem tailK (a : Option Addr) (n c : Nat) (i : Nat) (hi : i ≤ n) : ∃ u, ∀ V, (Instr.slice 76 (.slice a n c) (some (.int .i64 (i : Int))) none none).run Tryz.prog V = .ok u V :=
  ⟨_, fun V => by rw [run_slice_l (P := Tryz.prog) V 76 _ n c ht60 .i64 (i : Int) (by omega) (by omega), size_elem60]; rfl⟩
set_option maxHeartbeats 4000000 in
theorem insert_endK {w : World} (v : Value) (n : Nat) (xs : List Value) (hr : w.ownsRow 0 74 1 v n xs) (hb : n ≤ 1048576) (vb : Nat) (ys : List Value) (hvb : w.heap[vb]? = some (.cells ys.toArray 74 (0, 0))) (hyl : ys.length = 1) (hy1 : ∀ u ∈ ys, u.oneCell' = true) : Calls Tryz.prog 90 #[v, .int .i64 (n : Int), .slice (some ⟨vb, 0, none⟩) 1 1] w (InsK w v n n xs ys) := by
  obtain ⟨ti, hti, hz, hsz, hby⟩ := full58
  obtain ⟨v', W', hrun, q1, q2, q3⟩ := run_append_gen (P := Tryz.prog) w 76 76 74 ti _ 1 8 Tryz.underlying76 hti hz hsz hby rfl (by omega) v n xs hr ⟨vb, 0, none⟩ 1 1 ys (by rw [hyl]) (fun j u hu => by
    rw [Addr.add_mid, Nat.zero_add, block_cell hvb]; simpa using hu) hy1 (by unfold maxLen; omega) (by omega)
  obtain ⟨a, c, rfl⟩ := shape_n hr
  obtain ⟨U, htl⟩ := tailK a n c n (Nat.le_refl _)
  obtain ⟨a', c', rfl⟩ := shape_n q1
  have HRES : Hid (InsK w (.slice a n c) n n xs ys (.returned (.slice a' (n + 1) c')) W') := hide ⟨_, rfl, by
    rw [List.take_of_length_le (by rw [hr.1]; omega), List.drop_of_length_le (by rw [hr.1]; omega), List.append_nil]
    exact q1, q3, (Fr.grown q2).mono (fun k _ h => h)⟩
  obtain ⟨n1, hn1⟩ : ∃ n1, n1 = n + 1 := ⟨_, rfl⟩
  rw [← hn1] at HRES hrun
  have hbe : ((n : Int) == (n : Int)) = true := by simp
  clear hr hvb hyl hy1 q1 q2 q3 hti hz hsz hby hn1
  go_enter Tryz.func90, Tryz.ntmps90
  go_wp2_with (refine wpList_plain rfl fun _ hK => wp_append_to (.tmp 23) (.tmp 24) 76 rfl _ rfl _ rfl (.slice a n c) (.slice (some ⟨vb, 0, none⟩) 1 1) rfl rfl _ _ hrun (hK _ _ ?_); clear hK)
  go_ret
  exact HRES.out
set_option maxHeartbeats 4000000 in
theorem insert_growK {w : World} (g n cap : Nat) (cur : Array Value) (xs : List Value) (hg : w.heap[g]? = some (.cells cur 74 (0, 0))) (hnc : n ≤ cap) (hcs : cur.size = cap * 1) (htk : cur.toList.take (n * 1) = xs) (h1 : ∀ u ∈ xs, u.oneCell' = true) (hb : n ≤ 1048576) (i : Nat) (hi : i < n) (hroom : cap < n + 1) (vb : Nat) (ys : List Value) (hvb : w.heap[vb]? = some (.cells ys.toArray 74 (0, 0))) (hyl : ys.length = 1) (hy1 : ∀ u ∈ ys, u.oneCell' = true) : Calls Tryz.prog 90 #[.slice (some ⟨g, 0, none⟩) n cap, .int .i64 (i : Int), .slice (some ⟨vb, 0, none⟩) 1 1] w (InsK w (.slice (some ⟨g, 0, none⟩) n cap) n i xs ys) := by
  obtain rfl : cap = n := by omega
  have hcl : cur.toList.length = cap * 1 := by simpa using hcs
  have hxc : cur.toList = xs := by rw [← htk, List.take_of_length_le (by omega)]
  have hxl : xs.length = cap * 1 := by rw [← hxc]; exact hcl
  obtain ⟨ti, hti, hz, hsz, hby⟩ := full58
  have hgl : g < w.heap.size := (Array.getElem?_eq_some_iff.1 hg).1
  have hvl : vb < w.heap.size := (Array.getElem?_eq_some_iff.1 hvb).1
  have hold : (Builtin.firstCells ti.size i (.slice (some ⟨g, 0, none⟩) i cap)).run Tryz.prog w.drew = .ok (xs.take (i * 1)).toArray w.drew := by
    rw [hsz]
    exact run_firstCells_some w.drew 1 i ⟨g, 0, none⟩ i cap (xs.take (i * 1)) (by rw [List.length_take]; omega) (fun j u hj => by
      rw [Addr.add_mid, Nat.zero_add, block_cell (w := w.drew) hg, hxc]
      rw [List.getElem?_take] at hj
      split at hj
      · exact hj
      · cases hj)
  obtain ⟨k, hk⟩ : ∃ k, k = cap + 1 - i := ⟨_, rfl⟩
  have hik : i + k = cap + 1 := by omega
  have hgr := Lib.run_append_grow_zeros w 76 3 76 74 ti _ .i64 .i64 Tryz.underlying76 Tryz.underlying3 hti hz (some ⟨g, 0, none⟩) i cap (xs.take (i * 1)) hold k (by omega) (by rw [hsz]; omega) (by omega) (by omega) (by rw [hby]; omega) (by rw [hby, hik]; exact growslice_fits (by omega) (by omega))
  rw [hik] at hgr
  obtain ⟨G, hG⟩ : ∃ G, G = grownCap w (cap + 1) cap 74 := ⟨_, rfl⟩
  have hGn : cap + 1 ≤ G := by rw [hG]; exact grownCap_ge w _ _ _
  have hG63 : G ≤ maxLen := by rw [hG]; exact grownCap_le_maxLen w _ _ _ (by unfold maxLen; omega)
  rw [← hG] at hgr
  obtain ⟨ROW, hROW⟩ : ∃ ROW : Array Value, ROW = (xs.take (i * 1)).toArray ++ Builtin.zeroCells (Value.pointer none).cells k ++ Builtin.zeroCells (Value.pointer none).cells (G - (cap + 1)) := ⟨_, rfl⟩
  have hti2 : (xs.take (i * 1)).length = i * 1 := by rw [List.length_take]; omega
  have hRl : ROW.size = G * 1 := by
    rw [hROW, Array.size_append, Array.size_append]
    have z1 := (zerosK k).1
    have z2 := (zerosK (G - (cap + 1))).1
    simp only [Array.length_toList] at z1 z2
    rw [z1, z2]
    simp only [List.size_toArray, hti2]
    omega
  have hRt : ROW.toList.take (i * 1) = xs.take (i * 1) := by
    rw [hROW]
    simp only [Array.toList_append, List.append_assoc]
    exact take_app hti2
  rw [← hROW] at hgr
  obtain ⟨W1, hW1⟩ : ∃ W1, W1 = w.drew.alloc (.cells ROW 74) := ⟨_, rfl⟩
  rw [← hW1] at hgr
  have b1 : W1.heap[w.heap.size]? = some (.cells ROW 74 (0, 0)) := by rw [hW1]; exact heap_alloc_new w.drew _
  have f1 : Fr w W1 (fun _ => False) := by rw [hW1]; exact (Fr.drew w _).two (Fr.alloc _ _ _)
  obtain ⟨W2, hW2⟩ : ∃ W2, W2 = W1.setCells w.heap.size (i * 1) ys := ⟨_, rfl⟩
  obtain ⟨C2, b2, s2, l2⟩ := setCells_at w.heap.size 74 (0, 0) ys (i * 1) W1 ROW b1 (by rw [hyl, hRl]; omega)
  rw [← hW2] at b2
  have f2 : Fr W1 W2 (fun k => k = w.heap.size) := by rw [hW2]; exact setCells_fr _ _ _ _
  have hcpA : ∀ ty dc, (Builtin.copy_ #[76, 76] ty #[.slice (some ⟨w.heap.size, i * 1, none⟩) (cap + 1 - i) dc, .slice (some ⟨vb, 0, none⟩) 1 1]).run Tryz.prog W1 = .ok (goInt (Nat.min 1 (cap + 1 - i))) W2 := fun ty dc => by
    rw [hW2]
    exact run_copyK W1 ty _ _ _ _ _ _ _ ys (by rw [hyl, show Nat.min 1 (cap + 1 - i) = 1 from Nat.min_eq_left (by omega)]) (fun j u hu => by
      rw [Addr.add_mid, Nat.zero_add]
      exact f1.cell (fun h => h) (by rw [block_cell hvb]; simpa using hu)) (fun j hj => by rw [hyl] at hj; rw [block_cell b1, List.getElem?_eq_getElem (by simp; rw [hRl]; omega)]; rfl) (fun j _ => block_frozen b1 _) hy1
  obtain ⟨W3, hW3⟩ : ∃ W3, W3 = W2.drew.setCells w.heap.size ((i + 1) * 1) (xs.drop (i * 1)) := ⟨_, rfl⟩
  have hdl : (xs.drop (i * 1)).length = (cap - i) * 1 := by rw [List.length_drop, hxl]; omega
  have b2d : W2.drew.heap[w.heap.size]? = some (.cells C2 74 (0, 0)) := b2
  obtain ⟨C3, b3, s3, l3⟩ := setCells_at w.heap.size 74 (0, 0) (xs.drop (i * 1)) ((i + 1) * 1) W2.drew C2 b2d (by rw [hdl, s2, hRl]; omega)
  rw [← hW3] at b3
  have f3 : Fr W2 W3 (fun k => k = w.heap.size) := by rw [hW3]; exact (Fr.drew W2 _).two (setCells_fr _ _ _ _)
  have hcpB : ∀ ty dc sc, (Builtin.copy_ #[76, 76] ty #[.slice (some ⟨w.heap.size, (i + 1) * 1, none⟩) (cap + 1 - (i + 1)) dc, .slice (some ⟨g, i * 1, none⟩) (cap - i) sc]).run Tryz.prog W2.drew = .ok (goInt (Nat.min (cap - i) (cap + 1 - (i + 1)))) W3 := fun ty dc sc => by
    rw [hW3]
    exact run_copyK W2.drew ty _ _ _ _ _ _ _ (xs.drop (i * 1)) (by rw [hdl, show Nat.min (cap - i) (cap + 1 - (i + 1)) = cap - i from Nat.min_eq_left (by omega)]) (fun j u hu => by
      rw [Addr.add_mid]
      rw [List.getElem?_drop] at hu
      exact (Fr.drew W2 (fun _ => False)).cell (fun h => h) (f2.cell (by omega) (f1.cell (fun h => h) (by rw [block_cell hg, hxc]; exact hu)))) (fun j hj => by rw [hdl] at hj; rw [block_cell b2d, List.getElem?_eq_getElem (by simp; rw [s2, hRl]; omega)]; rfl) (fun j _ => block_frozen b2d _) (fun u hu => h1 u (List.mem_of_mem_drop hu))
  have hfrx : Fr w W3 (fun k => (Value.slice (some ⟨g, 0, none⟩) cap cap).ownBlock = some k) := ((f1.trans f2).trans f3).mono (fun k hk h => by
    rcases h with (h | h) | h
    · exact h.elim
    · have h' : k = w.heap.size := h
      omega
    · have h' : k = w.heap.size := h
      omega)
  have HRES : Hid (InsK w (.slice (some ⟨g, 0, none⟩) cap cap) cap i xs ys (.returned (.slice (some ⟨w.heap.size, 0, none⟩) (cap + 1) G)) W3) := hide ⟨_, rfl, by
      refine ⟨by rw [List.length_append, List.length_append, hti2, hyl, hdl]; omega, .inr ⟨w.heap.size, G, C3, rfl, Nat.zero_le _, b3, hGn, hG63, by rw [s3, s2, hRl], ?_⟩⟩
      have e2 : C2.toList.take ((i + 1) * 1) = xs.take (i * 1) ++ ys := by
        rw [l2, hRt]
        exact take_app (by rw [List.length_append, hti2, hyl]; omega)
      rw [l3, e2]
      exact take_app (by rw [List.length_append, List.length_append, hti2, hyl, hdl]; omega), .inr ⟨w.heap.size, rfl, Nat.le_refl _⟩, hfrx⟩
  have hkk : (cap : Int) + 1 - (i : Int) = (k : Int) := by omega
  have HGR := hide hgr
  obtain ⟨n1, hn1⟩ : ∃ n1, n1 = cap + 1 := ⟨_, rfl⟩
  obtain ⟨i1, hi1⟩ : ∃ i1, i1 = i + 1 := ⟨_, rfl⟩
  rw [← hn1] at HGR HRES hcpA
  rw [← hn1, ← hi1] at hcpB
  have hi1i : (i : Int) + 1 = (i1 : Int) := by omega
  have hn1i : (cap : Int) + 1 = (n1 : Int) := by omega
  have hn1k : (n1 : Int) - (i : Int) = (k : Int) := by omega
  have hz2 : ¬ ((i : Int) = (cap : Int)) := by omega
  have hz2b : ((i : Int) == (cap : Int)) = false := by simp; omega
  have hz3 : (cap : Int) < (n1 : Int) := by omega
  have hGi : ¬ (G = i) := by omega
  have hGim : ¬ (G = i1) := by omega
  have hci : ¬ (cap = i) := by omega
  have hin : i ≤ cap := by omega
  have hi1n : i1 ≤ n1 := by omega
  have hinn : i ≤ n1 := by omega
  have hGG : n1 ≤ G := by omega
  have hiG : i ≤ G := by omega
  have hi1G : i1 ≤ G := by omega
  have hGm : G ≤ 9223372036854775807 := by unfold maxLen at hG63; omega
  have hn1b : n1 ≤ 1048577 := by omega
  have hi1b : i1 ≤ 1048577 := by omega
  have hw1 : IntKind.i64.wrap (n1 : Int) = (n1 : Int) := by rw [IntKind.wrap_i64]; omega
  have hw2 : IntKind.i64.wrap (i1 : Int) = (i1 : Int) := by rw [IntKind.wrap_i64]; omega
  have hw3 : IntKind.i64.wrap (k : Int) = (k : Int) := by rw [IntKind.wrap_i64]; omega
  generalize hB : w.heap.size = B at *
  clear hcl hxc hxl hti hz hsz hby hgl hvl hold hk hik hgr hG hGn hG63 hROW hti2 hRl hRt hW1 b1 f1 hW2 b2 s2 l2 f2 hdl b2d b3 s3 l3 f3 hfrx hkk hn1 hi1 hB hg hcs htk h1 hvb hyl hy1 hnc hroom hW3
  simp only [Nat.mul_one] at hcpA hcpB
  go_enter Tryz.func90, Tryz.ntmps90
  go_wp2_with (first
    | (refine wpList_plain rfl fun _ hK => wp_grow_to (.tmp 34) (.tmp 39) 76 3 rfl _ rfl _ rfl (.slice (some ⟨g, 0, none⟩) i cap) (.int .i64 (k : Int)) rfl rfl _ _ HGR.out (hK _ _ ?_); clear hK)
    | (refine wpList_plain rfl fun _ hK => wp_copy_to (.tmp 43) (.tmp 44) 76 rfl _ rfl _ rfl _ _ rfl rfl _ _ (hcpA _ _) (hK _ _ ?_); clear hK))
  refine wp_region_K (fun z => decide (z < 8)) (fun U : World => U = W2.drew) (by kernel_rfl) ?_
  have hS : (fun U : World => U = W2.drew) W2.drew := rfl
  refine wpAnyK_takeTo 0 (some 46) (.slice (some ⟨B, 0, none⟩) n1 G) [4, 8] rfl rfl (by kernel_rfl) (by kernel_rfl) (by kernel_rfl) (by kernel_rfl) (fun _ _ _ h => h) hS (Or.inl ⟨rfl, fun w1 hw1 => by go_simp⟩) ?_
  simp only [Act.put, List.setIfInBounds_toArray, List.set_cons_zero, List.set_cons_succ]
  refine wpAnyK_takeTo 1 (some 47) (.int .i64 (i : Int)) [3, 4, 8] rfl rfl (by kernel_rfl) (by kernel_rfl) (by kernel_rfl) (by kernel_rfl) (fun _ _ _ h => h) hS (Or.inl ⟨rfl, fun w1 hw1 => by go_simp⟩) ?_
  simp only [Act.put, List.setIfInBounds_toArray, List.set_cons_zero, List.set_cons_succ]
  refine wpAnyK_takeTo 2 (some 48) (.int .i64 1) [3, 4, 8] rfl rfl (by kernel_rfl) (by kernel_rfl) (by kernel_rfl) (by kernel_rfl) (fun _ _ _ h => h) hS (Or.inl ⟨rfl, fun w1 hw1 => by go_simp⟩) ?_
  simp only [Act.put, List.setIfInBounds_toArray, List.set_cons_zero, List.set_cons_succ]
  refine wpAnyK_takeTo 3 (some 49) (.int .i64 (i1 : Int)) [4, 8] rfl rfl (by kernel_rfl) (by kernel_rfl) (by kernel_rfl) (by kernel_rfl) (fun _ _ _ h => h) hS (Or.inl ⟨rfl, fun w1 hw1 => by go_simp⟩) ?_
  simp only [Act.put, List.setIfInBounds_toArray, List.set_cons_zero, List.set_cons_succ]
  refine wpAnyK_takeTo 4 (some 50) (.slice (some ⟨B, i1, none⟩) (n1 - i1) (G - i1)) [8] rfl rfl (by kernel_rfl) (by kernel_rfl) (by kernel_rfl) (by kernel_rfl) (fun _ _ _ h => h) hS (Or.inl ⟨rfl, fun w1 hw1 => by go_simp⟩) ?_
  simp only [Act.put, List.setIfInBounds_toArray, List.set_cons_zero, List.set_cons_succ]
  refine wpAnyK_takeTo 5 (some 51) (.slice (some ⟨g, 0, none⟩) cap cap) [7, 8] rfl rfl (by kernel_rfl) (by kernel_rfl) (by kernel_rfl) (by kernel_rfl) (fun _ _ _ h => h) hS (Or.inl ⟨rfl, fun w1 hw1 => by go_simp⟩) ?_
  simp only [Act.put, List.setIfInBounds_toArray, List.set_cons_zero, List.set_cons_succ]
  refine wpAnyK_takeTo 6 (some 52) (.int .i64 (i : Int)) [7, 8] rfl rfl (by kernel_rfl) (by kernel_rfl) (by kernel_rfl) (by kernel_rfl) (fun _ _ _ h => h) hS (Or.inl ⟨rfl, fun w1 hw1 => by go_simp⟩) ?_
  simp only [Act.put, List.setIfInBounds_toArray, List.set_cons_zero, List.set_cons_succ]
  refine wpAnyK_takeTo 7 (some 53) (.slice (some ⟨g, i, none⟩) (cap - i) (cap - i)) [8] rfl rfl (by kernel_rfl) (by kernel_rfl) (by kernel_rfl) (by kernel_rfl) (fun _ _ _ h => h) hS (Or.inl ⟨rfl, fun w1 hw1 => by go_simp⟩) ?_
  simp only [Act.put, List.setIfInBounds_toArray, List.set_cons_zero, List.set_cons_succ]
  refine wpAnyK_one (i := 8) (by kernel_rfl) rfl rfl ?_
  refine wp_copy_to (.tmp 50) (.tmp 53) 76 rfl _ rfl _ rfl _ _ rfl rfl _ _ (hcpB _ _ _) ⟨fun h => by simp at h, ?_⟩
  simp only [Act.put, List.setIfInBounds_toArray, List.set_cons_zero, List.set_cons_succ]
  refine wpAnyK_done (by kernel_rfl) ?_ _
  clear hS hcpA hcpB HGR
  go_wp2
  go_ret
  exact HRES.out
end Go.Proofs.YtigkinakhijfoaaGreat
