/- Rows: what is written into a block; slices.Clone and slices.Delete at rows of items and of kids. -/
import Derived.Test.YtigkinakhijfoaaGreatJx
import Derived.Lib.SliceRun
import Derived.Lib.AppendZerosOnto
import Derived.Laws.NewBlocks
namespace Go.Proofs.YtigkinakhijfoaaGreat
open Go.RowKit
set_option maxRecDepth 100000
set_option linter.unusedVariables false
set_option linter.unusedSimpArgs false

theorem set_td {α : Type} : ∀ (l : List α) (o m : Nat) (v : α), o < l.length → (l.set o v).take (o + 1) = l.take o ++ [v] ∧ (l.set o v).drop (o + 1 + m) = l.drop (o + 1 + m)
  | [], o, m, v, h => by simp at h
  | x :: l, 0, m, v, h => by simp [Nat.add_comm 1 m]
  | x :: l, o + 1, m, v, h => by
    obtain ⟨h1, h2⟩ := set_td l o m v (by simpa using h)
    refine ⟨by simp [h1], ?_⟩
    rw [show o + 1 + 1 + m = (o + 1 + m) + 1 by omega]
    simpa using h2
theorem setCells_at (g : Nat) (e : TypeId) (fr : Nat × Nat) : ∀ (vs : List Value) (o : Nat) (w : World) (cur : Array Value), w.heap[g]? = some (.cells cur e fr) → o + vs.length ≤ cur.size → ∃ cur', (w.setCells g o vs).heap[g]? = some (.cells cur' e fr) ∧ cur'.size = cur.size ∧ cur'.toList = cur.toList.take o ++ vs ++ cur.toList.drop (o + vs.length)
  | [], o, w, cur, h, ho => ⟨cur, h, rfl, by simp⟩
  | v :: vs, o, w, cur, h, ho => by
    have h1 := heap_setCell_here w g o v cur e fr h
    simp only [List.length_cons] at ho
    obtain ⟨cur', h2, h3, h4⟩ := setCells_at g e fr vs (o + 1) (w.setCell ⟨g, o, none⟩ v) _ h1 (by simp; omega)
    refine ⟨cur', h2, by simpa using h3, ?_⟩
    rw [h4, Array.toList_setIfInBounds]
    have hl : o < cur.toList.length := by simp; omega
    rw [(set_td cur.toList o vs.length v hl).1, (set_td cur.toList o vs.length v hl).2, List.length_cons, show o + (vs.length + 1) = o + 1 + vs.length by omega]
    simp
theorem setCells_fr (g : Nat) : ∀ (vs : List Value) (o : Nat) (w : World), Fr w (w.setCells g o vs) (fun k => k = g)
  | [], _, _ => Fr.refl _ _
  | v :: vs, o, w => (Fr.setCell w ⟨g, o, none⟩ v).two (setCells_fr g vs (o + 1) _)
theorem block_cell {w : World} {g : Nat} {cur : Array Value} {e : TypeId} {fr : Nat × Nat} (h : w.heap[g]? = some (.cells cur e fr)) (j : Nat) : w.cell? ⟨g, j, none⟩ = cur.toList[j]? := by
  rw [cell_of_row _ _ _ _ _ _ h]; simp
theorem block_frozen {w : World} {g : Nat} {cur : Array Value} {e : TypeId} (h : w.heap[g]? = some (.cells cur e (0, 0))) (j : Nat) : w.frozen? ⟨g, j, none⟩ = false := by simp [World.frozen?, h]
theorem take_app {α : Type} {A B : List α} {k : Nat} (h : A.length = k) : (A ++ B).take k = A := by rw [← h]; simp
theorem full75 : ∃ i, Tryz.prog.info? 106 = some i ∧ i.zero = some (Value.agg #[.string ⟨#[]⟩, .int .i64 0]) ∧ i.size = 2 ∧ i.bytes = 24 := by
  have h : (Tryz.prog.info? 106).bind (fun i => some (i.zero, i.size, i.bytes)) = some (some (Value.agg #[.string ⟨#[]⟩, .int .i64 0]), 2, 24) := by kernel_rfl
  cases hi : Tryz.prog.info? 106 with
  | none => rw [hi] at h; cases h
  | some i =>
    rw [hi] at h
    simp only [Option.bind_some, Option.some.injEq, Prod.mk.injEq] at h
    exact ⟨i, rfl, h.1, h.2.1, h.2.2⟩
theorem empty59 (w : World) : (Instr.buildSlice 75 0 #[]).run Tryz.prog w = .ok (.slice (some ⟨w.heap.size, 0, none⟩) 0 0) (w.alloc (.cells #[] 106)) := by kernel_rfl
theorem run_eql_nil59 (w : World) (a : Option Addr) (n c : Nat) : (binOp .eql 75 (.slice a n c) (.slice none 0 0)).run Tryz.prog w = .ok (.bool a.isNone) w := by
  simp only [binOp]
  simp [Op.equal, Op.maxDepth, Lib.run_equalIn_slice_nil w 9999 75 106 a n c 0 0 Tryz.underlying75]
theorem row_empty75 (w : World) : (w.alloc (.cells #[] 106)).ownsRow 0 106 2 (.slice (some ⟨w.heap.size, 0, none⟩) 0 0) 0 [] :=
  ⟨rfl, .inr ⟨w.heap.size, 0, #[], rfl, Nat.zero_le _, heap_alloc_new w _, Nat.le_refl _, by unfold maxLen; omega, by simp, by simp⟩⟩
set_option maxHeartbeats 2000000 in
theorem cloneI {w : World} (a : Option Addr) (n c : Nat) (xs : List Value) (hx : xs.length = n * 2) (hnil : a = none → n = 0 ∧ c = 0) (hc : ∀ x, a = some x → ∀ j u, xs[j]? = some u → w.cell? (x.add j) = some u) (h1 : ∀ u ∈ xs, u.oneCell' = true) (hb : n ≤ 1048576) : Calls Tryz.prog 87 #[.slice a n c] w fun e w' => ∃ v, e = .returned v ∧ w'.ownsRow 0 106 2 v n xs ∧ (∀ k, v.ownBlock = some k → w.heap.size ≤ k) ∧ Fr w w' (fun _ => False) := by
  cases a with
  | none =>
    obtain ⟨rfl, rfl⟩ := hnil rfl
    have hx0 : xs = [] := List.eq_nil_of_length_eq_zero (by simpa using hx)
    have HX := hide hx0
    have heq := fun w1 => run_eql_nil59 w1 none 0 0
    clear hx hnil hc h1 hx0
    go_enter Tryz.func87, Tryz.ntmps87
    go_wp2
    go_ret
    exact ⟨_, rfl, by rw [HX.out]; exact World.ownsRow_nil w 0 106 2, fun k hk => (by cases hk), Fr.refl _ _⟩
  | some x =>
    have FA := Fr.alloc w (.cells #[] 106) (fun _ => False)
    obtain ⟨i, hi, hz, hsz, hby⟩ := full75
    obtain ⟨v', W', hr, q1, q2, q3⟩ := run_append_gen (P := Tryz.prog) (w.alloc (.cells #[] 106)) 75 75 106 i _ 2 24 Tryz.underlying75 hi hz hsz hby rfl (by omega) _ 0 [] (row_empty75 w) x n c xs hx (fun j u hu => by
      have h := hc x rfl j u hu
      have hb := World.block_lt_of_cell? w _ h
      rw [World.cell?_of_block (w := w) (FA.block _ hb (fun h => h))]
      exact h) h1 (by unfold maxLen; omega) (by omega)
    rw [Nat.zero_add, List.nil_append] at q1
    obtain ⟨a', c', rfl⟩ := shape_n q1
    have hfresh : ∀ k, (Value.slice a' n c').ownBlock = some k → w.heap.size ≤ k := fun k hk => by
      rcases q3 with q | ⟨p, q, hp⟩
      · rw [q] at hk; cases hk; exact Nat.le_refl _
      · rw [q] at hk; cases hk; have := FA.size; omega
    have HQ := hide q1
    have HFR := hide hfresh
    have HF := hide ((FA.trans (Fr.grown q2)).mono (Y := fun _ => False) (fun k hk h => by
      rcases h with h | h
      · exact h
      · have := Option.some.inj h; simp only [] at this; omega))
    have heq := fun w1 => run_eql_nil59 w1 (some x) n c
    have hem := empty59
    clear hx hnil hc h1 FA q1 q2 q3 hfresh
    go_enter Tryz.func87, Tryz.ntmps87
    go_wp2_with (refine wpList_plain rfl fun _ hK => wp_append_to (.tmp 5) (.tmp 6) 75 rfl _ rfl _ rfl (.slice (some ⟨w.heap.size, 0, none⟩) 0 0) (.slice (some x) n c) rfl rfl _ _ hr (hK _ _ ?_); clear hK)
    go_ret
    exact ⟨_, rfl, HQ.out, HFR.out, HF.out⟩
theorem run_clearI (w : World) (ty : TypeId) (b o n c : Nat) (hn0 : n ≠ 0) (zs : List Value) (hzs : zs = (Builtin.zeroCells (Value.agg #[.string ⟨#[]⟩, .int .i64 0]).cells n).toList) (hc : ∀ j, j < zs.length → (w.cell? ⟨b, o + j, none⟩).isSome = true) (hf : ∀ j, j < zs.length → w.frozen? ⟨b, o + j, none⟩ = false) (h1 : ∀ u ∈ zs, u.oneCell' = true) :
    (Builtin.clear_ #[75] ty #[.slice (some ⟨b, o, none⟩) n c]).run Tryz.prog w = .ok (.tuple #[]) (w.setCells b o zs) := by
  have hv : ∀ w, (zeroValue 106).run Tryz.prog w = .ok (Value.agg #[.string ⟨#[]⟩, .int .i64 0]) w := Tryz.zeroValue106
  have hst := run_storeCells_cells (P := Tryz.prog) b o zs 0 w (by simpa using hc) (by simpa using hf) h1
  simp only [Nat.add_zero] at hst
  cases n with
  | zero => exact absurd rfl hn0
  | succ n => simp [Builtin.clear_, run_underlying Tryz.underlying75, hv, ← hzs, hst]
theorem zerosI (n : Nat) : ((Builtin.zeroCells (Value.agg #[.string ⟨#[]⟩, .int .i64 0]).cells n).toList).length = n * 2 ∧ ∀ u ∈ (Builtin.zeroCells (Value.agg #[.string ⟨#[]⟩, .int .i64 0]).cells n).toList, u.oneCell' = true := by
  refine ⟨by simp [Builtin.zeroCells, Value.cells], fun u hu => ?_⟩
  simp [Builtin.zeroCells, Value.cells] at hu
  obtain ⟨i, _, rfl⟩ := hu
  rcases Nat.mod_two_eq_zero_or_one i with h | h <;> rw [h] <;> rfl
set_option maxHeartbeats 4000000 in
theorem deleteI {w : World} (v : Value) (n : Nat) (xs : List Value) (hr : w.ownsRow 0 106 2 v n xs) (h1 : ∀ u ∈ xs, u.oneCell' = true) (i j m : Nat) (hij : i < j) (hjn : j ≤ n) (hb : n ≤ 1048576) (hm : m = n - (j - i)) : Calls Tryz.prog 56 #[v, .int .i64 (i : Int), .int .i64 (j : Int)] w fun e w' => ∃ v', e = .returned v' ∧ w'.ownsRow 0 106 2 v' m (xs.take (i * 2) ++ xs.drop (j * 2)) ∧ v'.ownBlock = v.ownBlock ∧ Fr w w' (fun k => v.ownBlock = some k) := by
  rcases hr.2 with ⟨rfl, h0⟩ | ⟨g, cap, cur, rfl, _, hg, hnc, hcm, hcs, htk⟩
  · omega
  have hxl := hr.1
  obtain ⟨news, hnews⟩ : ∃ news, news = xs.drop (j * 2) := ⟨_, rfl⟩
  have hnl : news.length = (n - j) * 2 := by rw [hnews, List.length_drop, hxl]; omega
  have hgd : w.drew.heap[g]? = some (.cells cur 106 (0, 0)) := hg
  have hcl : cur.toList.length = cap * 2 := by simpa using hcs
  have hgx : ∀ (q : Nat) (u : Value), xs[q]? = some u → cur.toList[q]? = some u := fun q u hu => by
    have : (cur.toList.take (n * 2))[q]? = some u := by rw [htk]; exact hu
    rw [List.getElem?_take] at this
    split at this
    · exact this
    · cases this
  have hcell : ∀ (q : Nat) (u : Value), news[q]? = some u → w.drew.cell? ⟨g, j * 2 + q, none⟩ = some u := fun q u hu => by
    rw [block_cell hgd]
    rw [hnews, List.getElem?_drop] at hu
    exact hgx _ u hu
  obtain ⟨zs, hzs⟩ : ∃ zs, zs = (Builtin.zeroCells (Value.agg #[.string ⟨#[]⟩, .int .i64 0]).cells (n - m)).toList := ⟨_, rfl⟩
  have hz0 := zerosI (n - m)
  rw [← hzs] at hz0
  obtain ⟨W1, hW1⟩ : ∃ W1, W1 = w.drew.setCells g (i * 2) news := ⟨_, rfl⟩
  obtain ⟨W2, hW2⟩ : ∃ W2, W2 = W1.setCells g (m * 2) zs := ⟨_, rfl⟩
  obtain ⟨c1, hb1, hs1, hl1⟩ := setCells_at g 106 (0, 0) news (i * 2) w.drew cur hgd (by rw [hnl, hcs]; omega)
  rw [← hW1] at hb1
  obtain ⟨c2, hb2, hs2, hl2⟩ := setCells_at g 106 (0, 0) zs (m * 2) W1 c1 hb1 (by rw [hz0.1, hs1, hcs]; omega)
  rw [← hW2] at hb2
  have hclr : ∀ ty, (Builtin.clear_ #[75] ty #[.slice (some ⟨g, m * 2, none⟩) (n - m) (cap - m)]).run Tryz.prog W1 = .ok (.tuple #[]) W2 := fun ty => by
    rw [hW2]
    exact run_clearI W1 ty g _ _ _ (by omega) zs hzs (fun q hq => by rw [block_cell hb1, List.getElem?_eq_getElem (by simp; rw [hs1, hcs]; rw [hz0.1] at hq; omega)]; rfl) (fun q _ => block_frozen hb1 _) hz0.2
  have hrow : W2.ownsRow 0 106 2 (.slice (some ⟨g, 0, none⟩) m cap) m (xs.take (i * 2) ++ news) := by
    have hti : (xs.take (i * 2)).length = i * 2 := by rw [List.length_take, hxl]; omega
    refine ⟨by rw [List.length_append, hti, hnl]; omega, .inr ⟨g, cap, c2, rfl, Nat.zero_le _, hb2, by omega, hcm, by rw [hs2, hs1, hcs], ?_⟩⟩
    have ht : cur.toList.take (i * 2) = xs.take (i * 2) := by rw [← htk, List.take_take, Nat.min_eq_left (by omega)]
    have h3 : c1.toList.take (m * 2) = xs.take (i * 2) ++ news := by
      rw [hl1, ht]
      exact take_app (by rw [List.length_append, hti, hnl]; omega)
    rw [hl2, h3, List.append_assoc]
    exact take_app (by rw [List.length_append, hti, hnl]; omega)
  have hfr : Fr w W2 (fun k => (Value.slice (some ⟨g, 0, none⟩) n cap).ownBlock = some k) := by
    have f1 : Fr w W1 (fun k => k = g) := by rw [hW1]; exact (Fr.drew w _).two (setCells_fr g news _ _)
    have f2 : Fr W1 W2 (fun k => k = g) := by rw [hW2]; exact setCells_fr g zs _ _
    exact (f1.two f2).mono (fun k _ h => by rw [h]; rfl)
  have HRES := hide (And.intro hrow hfr)
  obtain ⟨ti, hti, hz, hsz, hby⟩ := full75
  have hap : ∀ (A : Addr), (∀ (q : Nat) (u : Value), news[q]? = some u → w.drew.cell? (A.add q) = some u) → (Builtin.append_ #[75, 75] 75 #[.slice (some ⟨g, 0, none⟩) i cap, .slice (some A) (n - j) (cap - j)]).run Tryz.prog w.drew = .ok (.slice (some ⟨g, 0, none⟩) m cap) W1 := fun A hA => by
    have h := run_append_room_cells (P := Tryz.prog) (w := w.drew) 75 75 106 ti Tryz.underlying75 hti g 0 i cap A (n - j) (cap - j) news (by rw [hsz]; exact hnl) hA (fun u hu => h1 u (by rw [hnews] at hu; exact List.mem_of_mem_drop hu)) (by omega) (fun q hq => by rw [block_cell hgd, hsz, List.getElem?_eq_getElem (by rw [hcl]; rw [hnl] at hq; omega)]; rfl) (fun q _ => block_frozen hgd _)
    rw [h, hsz, Nat.zero_add, ← hW1, show i + (n - j) = m by omega]
  have HAP := hide hap
  have HCE := hide hcell
  rw [hnews] at HRES
  clear hap hcell hrow hfr hW1 hW2 hti hz hsz hby hr hg hgd hcs htk hxl hgx hcl hzs hz0 hb1 hs1 hl1 hb2 hs2 hl2 h1 hnews
  have hic : i ≤ cap := by omega
  have hjc : j ≤ cap := by omega
  have hij1 : i ≤ j := by omega
  have hij2 : ¬ (i = j) := by omega
  have hij3 : ((i : Int) == (j : Int)) = false := by simp; omega
  have hmn : m ≤ n := by omega
  have hmc : m ≤ cap := by omega
  have hmc2 : ¬ (cap = m) := by omega
  obtain ⟨A, hA, hsrc⟩ : ∃ A : Addr, (if cap = j then some (⟨g, 0, none⟩ : Addr) else some ⟨g, j * 2, none⟩) = some A ∧ Hid (∀ (q : Nat) (u : Value), news[q]? = some u → w.drew.cell? (A.add q) = some u) := by
    by_cases h : cap = j
    · refine ⟨⟨g, 0, none⟩, by simp [h], fun t u hu => ?_⟩
      have h0 : news.length = 0 := by rw [hnl]; omega
      rw [List.length_eq_zero_iff.1 h0] at hu
      simp at hu
    · exact ⟨⟨g, j * 2, none⟩, by simp [h], fun t u hu => by rw [Addr.add_mid]; exact HCE.out t u hu⟩
  have hrun := HAP.out A hsrc.out
  clear HAP HCE hsrc hnl hm
  go_enter Tryz.func56, Tryz.ntmps56
  go_wp2_with fail
  refine wp_region_K (fun z => decide (z < 6)) (fun U : World => True) (by kernel_rfl) ?_
  have hS : (fun U : World => True) w.drew := trivial
  refine wpAnyK_takeTo 0 (some 20) (.slice (some ⟨g, 0, none⟩) n cap) [2, 6, 7] rfl rfl (by kernel_rfl) (by kernel_rfl) (by kernel_rfl) (by kernel_rfl) (fun _ _ _ h => h) hS (Or.inl ⟨rfl, fun w1 hw1 => by go_simp⟩) ?_
  simp only [Act.put, List.setIfInBounds_toArray, List.set_cons_zero, List.set_cons_succ]
  refine wpAnyK_takeTo 1 (some 21) (.int .i64 (i : Int)) [2, 6, 7] rfl rfl (by kernel_rfl) (by kernel_rfl) (by kernel_rfl) (by kernel_rfl) (fun _ _ _ h => h) hS (Or.inl ⟨rfl, fun w1 hw1 => by go_simp⟩) ?_
  simp only [Act.put, List.setIfInBounds_toArray, List.set_cons_zero, List.set_cons_succ]
  refine wpAnyK_takeTo 2 (some 22) (.slice (some ⟨g, 0, none⟩) i cap) [6, 7] rfl rfl (by kernel_rfl) (by kernel_rfl) (by kernel_rfl) (by kernel_rfl) (fun _ _ _ h => h) hS (Or.inl ⟨rfl, fun w1 hw1 => by go_simp⟩) ?_
  simp only [Act.put, List.setIfInBounds_toArray, List.set_cons_zero, List.set_cons_succ]
  refine wpAnyK_takeTo 3 (some 23) (.slice (some ⟨g, 0, none⟩) n cap) [5, 6, 7] rfl rfl (by kernel_rfl) (by kernel_rfl) (by kernel_rfl) (by kernel_rfl) (fun _ _ _ h => h) hS (Or.inl ⟨rfl, fun w1 hw1 => by go_simp⟩) ?_
  simp only [Act.put, List.setIfInBounds_toArray, List.set_cons_zero, List.set_cons_succ]
  refine wpAnyK_takeTo 4 (some 24) (.int .i64 (j : Int)) [5, 6, 7] rfl rfl (by kernel_rfl) (by kernel_rfl) (by kernel_rfl) (by kernel_rfl) (fun _ _ _ h => h) hS (Or.inl ⟨rfl, fun w1 hw1 => by go_simp⟩) ?_
  simp only [Act.put, List.setIfInBounds_toArray, List.set_cons_zero, List.set_cons_succ]
  refine wpAnyK_takeTo 5 (some 25) (.slice (some A) (n - j) (cap - j)) [6, 7] rfl rfl (by kernel_rfl) (by kernel_rfl) (by kernel_rfl) (by kernel_rfl) (fun _ _ _ h => h) hS (Or.inl ⟨rfl, fun w1 hw1 => by go_simp⟩) ?_
  simp only [Act.put, List.setIfInBounds_toArray, List.set_cons_zero, List.set_cons_succ]
  refine wpAnyK_one (i := 6) (by kernel_rfl) rfl rfl ?_
  refine wp_append_to (.tmp 22) (.tmp 25) 75 rfl _ rfl _ rfl (.slice (some ⟨g, 0, none⟩) i cap) (.slice (some A) (n - j) (cap - j)) rfl rfl _ _ hrun ?_
  refine ⟨fun h => by simp at h, ?_⟩
  simp only [Act.put, List.setIfInBounds_toArray, List.set_cons_zero, List.set_cons_succ]
  refine wpAnyK_one (i := 7) (by kernel_rfl) rfl rfl ?_
  go_simp
  refine wpAnyK_done (by kernel_rfl) ?_ _
  clear hS hrun hA
  go_wp2
  go_ret
  exact ⟨_, rfl, HRES.out.1, rfl, HRES.out.2⟩
theorem full58 : ∃ i, Tryz.prog.info? 74 = some i ∧ i.zero = some (Value.pointer none) ∧ i.size = 1 ∧ i.bytes = 8 := by
  have h : (Tryz.prog.info? 74).bind (fun i => some (i.zero, i.size, i.bytes)) = some (some (Value.pointer none), 1, 8) := by kernel_rfl
  cases hi : Tryz.prog.info? 74 with
  | none => rw [hi] at h; cases h
  | some i =>
    rw [hi] at h
    simp only [Option.bind_some, Option.some.injEq, Prod.mk.injEq] at h
    exact ⟨i, rfl, h.1, h.2.1, h.2.2⟩
theorem empty60 (w : World) : (Instr.buildSlice 76 0 #[]).run Tryz.prog w = .ok (.slice (some ⟨w.heap.size, 0, none⟩) 0 0) (w.alloc (.cells #[] 74)) := by kernel_rfl
theorem run_eql_nil60 (w : World) (a : Option Addr) (n c : Nat) : (binOp .eql 76 (.slice a n c) (.slice none 0 0)).run Tryz.prog w = .ok (.bool a.isNone) w := by
  simp only [binOp]
  simp [Op.equal, Op.maxDepth, Lib.run_equalIn_slice_nil w 9999 76 74 a n c 0 0 Tryz.underlying76]
theorem row_empty58 (w : World) : (w.alloc (.cells #[] 74)).ownsRow 0 74 1 (.slice (some ⟨w.heap.size, 0, none⟩) 0 0) 0 [] :=
  ⟨rfl, .inr ⟨w.heap.size, 0, #[], rfl, Nat.zero_le _, heap_alloc_new w _, Nat.le_refl _, by unfold maxLen; omega, by simp, by simp⟩⟩
set_option maxHeartbeats 2000000 in
theorem cloneK {w : World} (a : Option Addr) (n c : Nat) (xs : List Value) (hx : xs.length = n * 1) (hnil : a = none → n = 0 ∧ c = 0) (hc : ∀ x, a = some x → ∀ j u, xs[j]? = some u → w.cell? (x.add j) = some u) (h1 : ∀ u ∈ xs, u.oneCell' = true) (hb : n ≤ 1048576) : Calls Tryz.prog 88 #[.slice a n c] w fun e w' => ∃ v, e = .returned v ∧ w'.ownsRow 0 74 1 v n xs ∧ (∀ k, v.ownBlock = some k → w.heap.size ≤ k) ∧ Fr w w' (fun _ => False) := by
  cases a with
  | none =>
    obtain ⟨rfl, rfl⟩ := hnil rfl
    have hx0 : xs = [] := List.eq_nil_of_length_eq_zero (by simpa using hx)
    have HX := hide hx0
    have heq := fun w1 => run_eql_nil60 w1 none 0 0
    clear hx hnil hc h1 hx0
    go_enter Tryz.func88, Tryz.ntmps88
    go_wp2
    go_ret
    exact ⟨_, rfl, by rw [HX.out]; exact World.ownsRow_nil w 0 74 1, fun k hk => (by cases hk), Fr.refl _ _⟩
  | some x =>
    have FA := Fr.alloc w (.cells #[] 74) (fun _ => False)
    obtain ⟨i, hi, hz, hsz, hby⟩ := full58
    obtain ⟨v', W', hr, q1, q2, q3⟩ := run_append_gen (P := Tryz.prog) (w.alloc (.cells #[] 74)) 76 76 74 i _ 1 8 Tryz.underlying76 hi hz hsz hby rfl (by omega) _ 0 [] (row_empty58 w) x n c xs hx (fun j u hu => by
      have h := hc x rfl j u hu
      have hb := World.block_lt_of_cell? w _ h
      rw [World.cell?_of_block (w := w) (FA.block _ hb (fun h => h))]
      exact h) h1 (by unfold maxLen; omega) (by omega)
    rw [Nat.zero_add, List.nil_append] at q1
    obtain ⟨a', c', rfl⟩ := shape_n q1
    have hfresh : ∀ k, (Value.slice a' n c').ownBlock = some k → w.heap.size ≤ k := fun k hk => by
      rcases q3 with q | ⟨p, q, hp⟩
      · rw [q] at hk; cases hk; exact Nat.le_refl _
      · rw [q] at hk; cases hk; have := FA.size; omega
    have HQ := hide q1
    have HFR := hide hfresh
    have HF := hide ((FA.trans (Fr.grown q2)).mono (Y := fun _ => False) (fun k hk h => by
      rcases h with h | h
      · exact h
      · have := Option.some.inj h; simp only [] at this; omega))
    have heq := fun w1 => run_eql_nil60 w1 (some x) n c
    have hem := empty60
    clear hx hnil hc h1 FA q1 q2 q3 hfresh
    go_enter Tryz.func88, Tryz.ntmps88
    go_wp2_with (refine wpList_plain rfl fun _ hK => wp_append_to (.tmp 5) (.tmp 6) 76 rfl _ rfl _ rfl (.slice (some ⟨w.heap.size, 0, none⟩) 0 0) (.slice (some x) n c) rfl rfl _ _ hr (hK _ _ ?_); clear hK)
    go_ret
    exact ⟨_, rfl, HQ.out, HFR.out, HF.out⟩
theorem run_clearK (w : World) (ty : TypeId) (b o n c : Nat) (hn0 : n ≠ 0) (zs : List Value) (hzs : zs = (Builtin.zeroCells (Value.pointer none).cells n).toList) (hc : ∀ j, j < zs.length → (w.cell? ⟨b, o + j, none⟩).isSome = true) (hf : ∀ j, j < zs.length → w.frozen? ⟨b, o + j, none⟩ = false) (h1 : ∀ u ∈ zs, u.oneCell' = true) :
    (Builtin.clear_ #[76] ty #[.slice (some ⟨b, o, none⟩) n c]).run Tryz.prog w = .ok (.tuple #[]) (w.setCells b o zs) := by
  have hv : ∀ w, (zeroValue 74).run Tryz.prog w = .ok (Value.pointer none) w := Tryz.zeroValue74
  have hst := run_storeCells_cells (P := Tryz.prog) b o zs 0 w (by simpa using hc) (by simpa using hf) h1
  simp only [Nat.add_zero] at hst
  cases n with
  | zero => exact absurd rfl hn0
  | succ n => simp [Builtin.clear_, run_underlying Tryz.underlying76, hv, ← hzs, hst]
theorem zerosK (n : Nat) : ((Builtin.zeroCells (Value.pointer none).cells n).toList).length = n * 1 ∧ ∀ u ∈ (Builtin.zeroCells (Value.pointer none).cells n).toList, u.oneCell' = true := by
  refine ⟨by simp [Builtin.zeroCells, Value.cells], fun u hu => ?_⟩
  simp [Builtin.zeroCells, Value.cells] at hu
  obtain ⟨i, _, rfl⟩ := hu
  first | rfl | (rw [Nat.mod_one]; rfl)
set_option maxHeartbeats 4000000 in
theorem deleteK {w : World} (v : Value) (n : Nat) (xs : List Value) (hr : w.ownsRow 0 74 1 v n xs) (h1 : ∀ u ∈ xs, u.oneCell' = true) (i j m : Nat) (hij : i < j) (hjn : j ≤ n) (hb : n ≤ 1048576) (hm : m = n - (j - i)) : Calls Tryz.prog 89 #[v, .int .i64 (i : Int), .int .i64 (j : Int)] w fun e w' => ∃ v', e = .returned v' ∧ w'.ownsRow 0 74 1 v' m (xs.take (i * 1) ++ xs.drop (j * 1)) ∧ v'.ownBlock = v.ownBlock ∧ Fr w w' (fun k => v.ownBlock = some k) := by
  rcases hr.2 with ⟨rfl, h0⟩ | ⟨g, cap, cur, rfl, _, hg, hnc, hcm, hcs, htk⟩
  · omega
  have hxl := hr.1
  obtain ⟨news, hnews⟩ : ∃ news, news = xs.drop (j * 1) := ⟨_, rfl⟩
  have hnl : news.length = (n - j) * 1 := by rw [hnews, List.length_drop, hxl]; omega
  have hgd : w.drew.heap[g]? = some (.cells cur 74 (0, 0)) := hg
  have hcl : cur.toList.length = cap * 1 := by simpa using hcs
  have hgx : ∀ (q : Nat) (u : Value), xs[q]? = some u → cur.toList[q]? = some u := fun q u hu => by
    have : (cur.toList.take (n * 1))[q]? = some u := by rw [htk]; exact hu
    rw [List.getElem?_take] at this
    split at this
    · exact this
    · cases this
  have hcell : ∀ (q : Nat) (u : Value), news[q]? = some u → w.drew.cell? ⟨g, j * 1 + q, none⟩ = some u := fun q u hu => by
    rw [block_cell hgd]
    rw [hnews, List.getElem?_drop] at hu
    exact hgx _ u hu
  obtain ⟨zs, hzs⟩ : ∃ zs, zs = (Builtin.zeroCells (Value.pointer none).cells (n - m)).toList := ⟨_, rfl⟩
  have hz0 := zerosK (n - m)
  rw [← hzs] at hz0
  obtain ⟨W1, hW1⟩ : ∃ W1, W1 = w.drew.setCells g (i * 1) news := ⟨_, rfl⟩
  obtain ⟨W2, hW2⟩ : ∃ W2, W2 = W1.setCells g (m * 1) zs := ⟨_, rfl⟩
  obtain ⟨c1, hb1, hs1, hl1⟩ := setCells_at g 74 (0, 0) news (i * 1) w.drew cur hgd (by rw [hnl, hcs]; omega)
  rw [← hW1] at hb1
  obtain ⟨c2, hb2, hs2, hl2⟩ := setCells_at g 74 (0, 0) zs (m * 1) W1 c1 hb1 (by rw [hz0.1, hs1, hcs]; omega)
  rw [← hW2] at hb2
  have hclr : ∀ ty, (Builtin.clear_ #[76] ty #[.slice (some ⟨g, m * 1, none⟩) (n - m) (cap - m)]).run Tryz.prog W1 = .ok (.tuple #[]) W2 := fun ty => by
    rw [hW2]
    exact run_clearK W1 ty g _ _ _ (by omega) zs hzs (fun q hq => by rw [block_cell hb1, List.getElem?_eq_getElem (by simp; rw [hs1, hcs]; rw [hz0.1] at hq; omega)]; rfl) (fun q _ => block_frozen hb1 _) hz0.2
  have hrow : W2.ownsRow 0 74 1 (.slice (some ⟨g, 0, none⟩) m cap) m (xs.take (i * 1) ++ news) := by
    have hti : (xs.take (i * 1)).length = i * 1 := by rw [List.length_take, hxl]; omega
    refine ⟨by rw [List.length_append, hti, hnl]; omega, .inr ⟨g, cap, c2, rfl, Nat.zero_le _, hb2, by omega, hcm, by rw [hs2, hs1, hcs], ?_⟩⟩
    have ht : cur.toList.take (i * 1) = xs.take (i * 1) := by rw [← htk, List.take_take, Nat.min_eq_left (by omega)]
    have h3 : c1.toList.take (m * 1) = xs.take (i * 1) ++ news := by
      rw [hl1, ht]
      exact take_app (by rw [List.length_append, hti, hnl]; omega)
    rw [hl2, h3, List.append_assoc]
    exact take_app (by rw [List.length_append, hti, hnl]; omega)
  have hfr : Fr w W2 (fun k => (Value.slice (some ⟨g, 0, none⟩) n cap).ownBlock = some k) := by
    have f1 : Fr w W1 (fun k => k = g) := by rw [hW1]; exact (Fr.drew w _).two (setCells_fr g news _ _)
    have f2 : Fr W1 W2 (fun k => k = g) := by rw [hW2]; exact setCells_fr g zs _ _
    exact (f1.two f2).mono (fun k _ h => by rw [h]; rfl)
  have HRES := hide (And.intro hrow hfr)
  obtain ⟨ti, hti, hz, hsz, hby⟩ := full58
  have hap : ∀ (A : Addr), (∀ (q : Nat) (u : Value), news[q]? = some u → w.drew.cell? (A.add q) = some u) → (Builtin.append_ #[76, 76] 76 #[.slice (some ⟨g, 0, none⟩) i cap, .slice (some A) (n - j) (cap - j)]).run Tryz.prog w.drew = .ok (.slice (some ⟨g, 0, none⟩) m cap) W1 := fun A hA => by
    have h := run_append_room_cells (P := Tryz.prog) (w := w.drew) 76 76 74 ti Tryz.underlying76 hti g 0 i cap A (n - j) (cap - j) news (by rw [hsz]; exact hnl) hA (fun u hu => h1 u (by rw [hnews] at hu; exact List.mem_of_mem_drop hu)) (by omega) (fun q hq => by rw [block_cell hgd, hsz, List.getElem?_eq_getElem (by rw [hcl]; rw [hnl] at hq; omega)]; rfl) (fun q _ => block_frozen hgd _)
    rw [h, hsz, Nat.zero_add, ← hW1, show i + (n - j) = m by omega]
  have HAP := hide hap
  have HCE := hide hcell
  rw [hnews] at HRES
  clear hap hcell hrow hfr hW1 hW2 hti hz hsz hby hr hg hgd hcs htk hxl hgx hcl hzs hz0 hb1 hs1 hl1 hb2 hs2 hl2 h1 hnews
  have hic : i ≤ cap := by omega
  have hjc : j ≤ cap := by omega
  have hij1 : i ≤ j := by omega
  have hij2 : ¬ (i = j) := by omega
  have hij3 : ((i : Int) == (j : Int)) = false := by simp; omega
  have hmn : m ≤ n := by omega
  have hmc : m ≤ cap := by omega
  have hmc2 : ¬ (cap = m) := by omega
  obtain ⟨A, hA, hsrc⟩ : ∃ A : Addr, (if cap = j then some (⟨g, 0, none⟩ : Addr) else some ⟨g, j * 1, none⟩) = some A ∧ Hid (∀ (q : Nat) (u : Value), news[q]? = some u → w.drew.cell? (A.add q) = some u) := by
    by_cases h : cap = j
    · refine ⟨⟨g, 0, none⟩, by simp [h], fun t u hu => ?_⟩
      have h0 : news.length = 0 := by rw [hnl]; omega
      rw [List.length_eq_zero_iff.1 h0] at hu
      simp at hu
    · exact ⟨⟨g, j * 1, none⟩, by simp [h], fun t u hu => by rw [Addr.add_mid]; exact HCE.out t u hu⟩
  have hrun := HAP.out A hsrc.out
  clear HAP HCE hsrc hnl hm
  simp only [Nat.mul_one] at hA hclr
  go_enter Tryz.func89, Tryz.ntmps89
  go_wp2_with fail
  refine wp_region_K (fun z => decide (z < 6)) (fun U : World => True) (by kernel_rfl) ?_
  have hS : (fun U : World => True) w.drew := trivial
  refine wpAnyK_takeTo 0 (some 20) (.slice (some ⟨g, 0, none⟩) n cap) [2, 6, 7] rfl rfl (by kernel_rfl) (by kernel_rfl) (by kernel_rfl) (by kernel_rfl) (fun _ _ _ h => h) hS (Or.inl ⟨rfl, fun w1 hw1 => by go_simp⟩) ?_
  simp only [Act.put, List.setIfInBounds_toArray, List.set_cons_zero, List.set_cons_succ]
  refine wpAnyK_takeTo 1 (some 21) (.int .i64 (i : Int)) [2, 6, 7] rfl rfl (by kernel_rfl) (by kernel_rfl) (by kernel_rfl) (by kernel_rfl) (fun _ _ _ h => h) hS (Or.inl ⟨rfl, fun w1 hw1 => by go_simp⟩) ?_
  simp only [Act.put, List.setIfInBounds_toArray, List.set_cons_zero, List.set_cons_succ]
  refine wpAnyK_takeTo 2 (some 22) (.slice (some ⟨g, 0, none⟩) i cap) [6, 7] rfl rfl (by kernel_rfl) (by kernel_rfl) (by kernel_rfl) (by kernel_rfl) (fun _ _ _ h => h) hS (Or.inl ⟨rfl, fun w1 hw1 => by go_simp⟩) ?_
  simp only [Act.put, List.setIfInBounds_toArray, List.set_cons_zero, List.set_cons_succ]
  refine wpAnyK_takeTo 3 (some 23) (.slice (some ⟨g, 0, none⟩) n cap) [5, 6, 7] rfl rfl (by kernel_rfl) (by kernel_rfl) (by kernel_rfl) (by kernel_rfl) (fun _ _ _ h => h) hS (Or.inl ⟨rfl, fun w1 hw1 => by go_simp⟩) ?_
  simp only [Act.put, List.setIfInBounds_toArray, List.set_cons_zero, List.set_cons_succ]
  refine wpAnyK_takeTo 4 (some 24) (.int .i64 (j : Int)) [5, 6, 7] rfl rfl (by kernel_rfl) (by kernel_rfl) (by kernel_rfl) (by kernel_rfl) (fun _ _ _ h => h) hS (Or.inl ⟨rfl, fun w1 hw1 => by go_simp⟩) ?_
  simp only [Act.put, List.setIfInBounds_toArray, List.set_cons_zero, List.set_cons_succ]
  refine wpAnyK_takeTo 5 (some 25) (.slice (some A) (n - j) (cap - j)) [6, 7] rfl rfl (by kernel_rfl) (by kernel_rfl) (by kernel_rfl) (by kernel_rfl) (fun _ _ _ h => h) hS (Or.inl ⟨rfl, fun w1 hw1 => by go_simp⟩) ?_
  simp only [Act.put, List.setIfInBounds_toArray, List.set_cons_zero, List.set_cons_succ]
  refine wpAnyK_one (i := 6) (by kernel_rfl) rfl rfl ?_
  refine wp_append_to (.tmp 22) (.tmp 25) 76 rfl _ rfl _ rfl (.slice (some ⟨g, 0, none⟩) i cap) (.slice (some A) (n - j) (cap - j)) rfl rfl _ _ hrun ?_
  refine ⟨fun h => by simp at h, ?_⟩
  simp only [Act.put, List.setIfInBounds_toArray, List.set_cons_zero, List.set_cons_succ]
  refine wpAnyK_one (i := 7) (by kernel_rfl) rfl rfl ?_
  go_simp
  refine wpAnyK_done (by kernel_rfl) ?_ _
  clear hS hrun hA
  go_wp2
  go_ret
  exact ⟨_, rfl, HRES.out.1, rfl, HRES.out.2⟩
end Go.Proofs.YtigkinakhijfoaaGreat
