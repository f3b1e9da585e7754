/- above, side, weight; a tree in memory. -/
import Derived.Test.YtklnaeldhdhmiaaC
namespace Go.Proofs.Ytklnaeldhdhmiaa
open Go.RowKit Go.Sort
set_option maxRecDepth 100000
set_option linter.unusedVariables false
set_option linter.unusedSimpArgs false

theorem Fr.ofGrow {w w' : World} {n : Nat} {os : Array Obj} (h : w' = grow (w.drewN n) os) : Fr w w' (fun _ => False) := by
  subst h
  refine ⟨rfl, rfl, rfl, ?_, fun k hk _ => ?_⟩
  · show w.heap.size ≤ (w.heap ++ os).size
    rw [Array.size_append]; omega
  · show (w.heap ++ os)[k]? = _
    rw [Array.getElem?_append_left hk]
theorem order_any (p q : Pt) (w : World) : Calls Try.prog 22 #[p.agg, q.agg] w fun e w' => e = .returned (.int .i64 (ordI p q)) ∧ Fr w w' (fun _ => False) :=
  (order_grow p q w).mono fun e w' ⟨h1, n, os, h2⟩ => ⟨h1, Fr.ofGrow h2⟩
/-- A point's cells at a place. -/
def PtAt (w : World) (g o : Nat) (p : Pt) : Prop := w.cell? ⟨g, o, none⟩ = some (.int .i64 p.x) ∧ w.cell? ⟨g, o + 1, none⟩ = some (.int .i64 p.y) ∧ w.cell? ⟨g, o + 2, none⟩ = some (.int .i64 p.id)
theorem Fr.cell' {w w' : World} {X : Nat → Prop} (hf : Fr w w' X) {g o : Nat} {v : Value} (hx : ¬ X g) (h : w.cell? ⟨g, o, none⟩ = some v) : w'.cell? ⟨g, o, none⟩ = some v := by
  have hlt := World.block_lt_of_cell? w _ h
  unfold World.cell? at *
  rw [hf.block g hlt hx]
  exact h
theorem PtAt.fr {w w' : World} {X : Nat → Prop} {g o : Nat} {p : Pt} (h : PtAt w g o p) (hf : Fr w w' X) (hx : ¬ X g) : PtAt w' g o p := ⟨hf.cell' hx h.1, hf.cell' hx h.2.1, hf.cell' hx h.2.2⟩
theorem box_pt (w : World) (p : Pt) : PtAt (w.alloc (.cells #[.int .i64 p.x, .int .i64 p.y, .int .i64 p.id] 28)) w.heap.size 0 p := by
  have b := heap_alloc_new w (.cells #[.int .i64 p.x, .int .i64 p.y, .int .i64 p.id] 28)
  exact ⟨(cell_of_row _ _ _ _ _ _ b).trans rfl, (cell_of_row _ _ _ _ _ _ b).trans rfl, (cell_of_row _ _ _ _ _ _ b).trans rfl⟩
set_option maxHeartbeats 4000000 in
theorem above_any (p q : Pt) (w : World) : Calls Try.prog 29 #[p.agg, q.agg] w fun e w' => e = .returned (.bool (decide (aboveP p q))) ∧ Fr w w' (fun _ => False) := by
  have HC1 := hide (fun W => compare28 q.y p.y W)
  have HC2 := hide (fun W => order_any p q W)
  have hab : decide (orI (Lib.compareInt q.y p.y) (ordI p q) < 0) = decide (aboveP p q) := decide_eq_decide.2 (aboveI p q)
  generalize decide (aboveP p q) = R at *
  generalize Lib.compareInt q.y p.y = r1 at *
  generalize ordI p q = r2 at *
  unfold Pt.agg at *
  have P1 := (box_pt w p).fr (Fr.alloc _ (.cells #[.int .i64 q.x, .int .i64 q.y, .int .i64 q.id] 28) (fun _ => False)) (fun h => h)
  have P2 := box_pt (w.alloc (.cells #[.int .i64 p.x, .int .i64 p.y, .int .i64 p.id] 28)) q
  have hz : (w.alloc (.cells #[.int .i64 p.x, .int .i64 p.y, .int .i64 p.id] 28)).heap.size = w.heap.size + 1 := by simp
  rw [hz] at P2
  have F0 := ((Fr.alloc w (.cells #[.int .i64 p.x, .int .i64 p.y, .int .i64 p.id] 28) (fun _ => False)).trans (Fr.alloc _ (.cells #[.int .i64 q.x, .int .i64 q.y, .int .i64 q.id] 28) (fun _ => False))).mono (Y := fun _ => False) (fun _ _ h => h.elim id id)
  have HS0 := hide (And.intro P1 P2)
  have HF0 := hide F0
  clear P1 P2 hz F0
  go_enter Try.func29, Try.ntmps29
  go_wp2_with fail
  refine wp_region_K (fun z => decide (z < 7)) (fun U : World => PtAt U w.heap.size 0 p ∧ PtAt U (w.heap.size + 1) 0 q) (by kernel_rfl) ?_
  have hS : (fun U : World => PtAt U w.heap.size 0 p ∧ PtAt U (w.heap.size + 1) 0 q) ((w.alloc (.cells #[.int .i64 p.x, .int .i64 p.y, .int .i64 p.id] 28)).alloc (.cells #[.int .i64 q.x, .int .i64 q.y, .int .i64 q.id] 28)).drew := ⟨HS0.out.1.fr (Fr.drew _ (fun _ => False)) (fun h => h), HS0.out.2.fr (Fr.drew _ (fun _ => False)) (fun h => h)⟩
  have HF1 := hide ((HF0.out.trans (Fr.drew _ (fun _ => False))).mono (Y := fun _ => False) (fun _ _ h => h.elim id id))
  clear HS0 HF0
  generalize ((w.alloc (.cells #[.int .i64 p.x, .int .i64 p.y, .int .i64 p.id] 28)).alloc (.cells #[.int .i64 q.x, .int .i64 q.y, .int .i64 q.id] 28)).drew = U at *
  refine wpAnyK_takeTo 0 (some 5) (.pointer (some ⟨w.heap.size + 1, 1, none⟩)) [1, 4, 7, 8, 9, 10, 11] rfl rfl (by kernel_rfl) (by kernel_rfl) (by kernel_rfl) (by kernel_rfl) (fun _ _ _ h => h) hS (Or.inl ⟨rfl, fun w1 hw1 => by obtain ⟨⟨q1, q2, q3⟩, q4, q5, q6⟩ := hw1; go_simp⟩) ?_
  simp only [Act.put, List.setIfInBounds_toArray, List.set_cons_zero, List.set_cons_succ]
  refine wpAnyK_takeTo 1 (some 6) (.int .i64 q.y) [4, 7, 8, 9, 10, 11] rfl rfl (by kernel_rfl) (by kernel_rfl) (by kernel_rfl) (by kernel_rfl) (fun _ _ _ h => h) hS (Or.inl ⟨rfl, fun w1 hw1 => by obtain ⟨⟨q1, q2, q3⟩, q4, q5, q6⟩ := hw1; go_simp⟩) ?_
  simp only [Act.put, List.setIfInBounds_toArray, List.set_cons_zero, List.set_cons_succ]
  refine wpAnyK_takeTo 2 (some 7) (.pointer (some ⟨w.heap.size, 1, none⟩)) [3, 4, 7, 8, 9, 10, 11] rfl rfl (by kernel_rfl) (by kernel_rfl) (by kernel_rfl) (by kernel_rfl) (fun _ _ _ h => h) hS (Or.inl ⟨rfl, fun w1 hw1 => by obtain ⟨⟨q1, q2, q3⟩, q4, q5, q6⟩ := hw1; go_simp⟩) ?_
  simp only [Act.put, List.setIfInBounds_toArray, List.set_cons_zero, List.set_cons_succ]
  refine wpAnyK_takeTo 3 (some 8) (.int .i64 p.y) [4, 7, 8, 9, 10, 11] rfl rfl (by kernel_rfl) (by kernel_rfl) (by kernel_rfl) (by kernel_rfl) (fun _ _ _ h => h) hS (Or.inl ⟨rfl, fun w1 hw1 => by obtain ⟨⟨q1, q2, q3⟩, q4, q5, q6⟩ := hw1; go_simp⟩) ?_
  simp only [Act.put, List.setIfInBounds_toArray, List.set_cons_zero, List.set_cons_succ]
  refine wpAnyK_takeTo 5 (some 10) (.agg #[.int .i64 p.x, .int .i64 p.y, .int .i64 p.id]) [7, 8, 9, 10, 11] rfl rfl (by kernel_rfl) (by kernel_rfl) (by kernel_rfl) (by kernel_rfl) (fun _ _ _ h => h) hS (Or.inl ⟨rfl, fun w1 hw1 => by obtain ⟨⟨q1, q2, q3⟩, q4, q5, q6⟩ := hw1; go_simp⟩) ?_
  simp only [Act.put, List.setIfInBounds_toArray, List.set_cons_zero, List.set_cons_succ]
  refine wpAnyK_takeTo 6 (some 11) (.agg #[.int .i64 q.x, .int .i64 q.y, .int .i64 q.id]) [7, 8, 9, 10, 11] rfl rfl (by kernel_rfl) (by kernel_rfl) (by kernel_rfl) (by kernel_rfl) (fun _ _ _ h => h) hS (Or.inl ⟨rfl, fun w1 hw1 => by obtain ⟨⟨q1, q2, q3⟩, q4, q5, q6⟩ := hw1; go_simp⟩) ?_
  simp only [Act.put, List.setIfInBounds_toArray, List.set_cons_zero, List.set_cons_succ]
  refine wpAnyK_one (i := 4) (by kernel_rfl) rfl rfl ?_
  refine wp_call_to (some 9) rfl 28 #[.int .i64 q.y, .int .i64 p.y] (by go_simp) (HC1.out _) ?_
  rintro e U1 ⟨rfl, rfl⟩
  refine ⟨_, rfl, fun _ => hS, ?_⟩
  simp only [Act.put, List.setIfInBounds_toArray, List.set_cons_zero, List.set_cons_succ]
  refine wpAnyK_one (i := 7) (by kernel_rfl) rfl rfl ?_
  refine wp_call_to (some 12) rfl 22 #[.agg #[.int .i64 p.x, .int .i64 p.y, .int .i64 p.id], .agg #[.int .i64 q.x, .int .i64 q.y, .int .i64 q.id]] (by go_simp) (HC2.out _) ?_
  rintro e U2 ⟨rfl, f2⟩
  refine ⟨_, rfl, fun h => by simp at h, ?_⟩
  simp only [Act.put, List.setIfInBounds_toArray, List.set_cons_zero, List.set_cons_succ]
  have HF2 := hide ((HF1.out.trans f2).mono (Y := fun _ => False) (fun _ _ h => h.elim id id))
  clear hS HF1 f2
  refine wpAnyK_one (i := 8) (by kernel_rfl) rfl rfl ?_
  have hn := heap_alloc_new U2 (.cells #[.int .i64 r1, .int .i64 r2] 3)
  have HF3 := hide ((HF2.out.trans (Fr.alloc U2 (.cells #[.int .i64 r1, .int .i64 r2] 3) (fun _ => False))).mono (Y := fun _ => False) (fun _ _ h => h.elim id id))
  go_simp
  refine wpAnyK_one (i := 9) (by kernel_rfl) rfl rfl ?_
  refine wp_call_to (some 14) rfl 27 #[.slice (some ⟨U2.heap.size, 0, none⟩) 2 2] (by go_simp) (or_any _ _ r1 r2 ((cell_of_row _ _ _ _ _ _ hn).trans rfl) ((cell_of_row _ _ _ _ _ _ hn).trans rfl)) ?_
  rintro e U3 ⟨rfl, rfl⟩
  refine ⟨_, rfl, fun h => by simp at h, ?_⟩
  simp only [Act.put, List.setIfInBounds_toArray, List.set_cons_zero, List.set_cons_succ]
  refine wpAnyK_one (i := 10) (by kernel_rfl) rfl rfl ?_
  go_simp
  refine wpAnyK_one (i := 11) (by kernel_rfl) rfl rfl ?_
  go_simp
  refine wpAnyK_done (by kernel_rfl) ?_ _
  go_wp2
  go_ret
  exact ⟨by rw [← hab]; rfl, HF3.out⟩
/-- A node in memory. -/
def NodeAt (w : World) (g : Nat) (p f : Pt) (lv rv : Value) (n : Nat) : Prop := w.heap[g]? = some (.cells #[.int .i64 p.x, .int .i64 p.y, .int .i64 p.id, .int .i64 f.x, .int .i64 f.y, .int .i64 f.id, lv, rv, .int .i64 (n : Int)] 69 (0, 0))
structure NodeC (w : World) (g : Nat) (p f : Pt) (lv rv : Value) (n : Nat) : Prop where
  c0 : w.cell? ⟨g, 0, none⟩ = some (.int .i64 p.x)
  c1 : w.cell? ⟨g, 1, none⟩ = some (.int .i64 p.y)
  c2 : w.cell? ⟨g, 2, none⟩ = some (.int .i64 p.id)
  c3 : w.cell? ⟨g, 3, none⟩ = some (.int .i64 f.x)
  c4 : w.cell? ⟨g, 4, none⟩ = some (.int .i64 f.y)
  c5 : w.cell? ⟨g, 5, none⟩ = some (.int .i64 f.id)
  c6 : w.cell? ⟨g, 6, none⟩ = some lv
  c7 : w.cell? ⟨g, 7, none⟩ = some rv
  c8 : w.cell? ⟨g, 8, none⟩ = some (.int .i64 (n : Int))
theorem NodeAt.c {w : World} {g : Nat} {p f : Pt} {lv rv : Value} {n : Nat} (h : NodeAt w g p f lv rv n) : NodeC w g p f lv rv n :=
  ⟨(cell_of_row _ _ _ _ _ _ h).trans rfl, (cell_of_row _ _ _ _ _ _ h).trans rfl, (cell_of_row _ _ _ _ _ _ h).trans rfl, (cell_of_row _ _ _ _ _ _ h).trans rfl, (cell_of_row _ _ _ _ _ _ h).trans rfl, (cell_of_row _ _ _ _ _ _ h).trans rfl, (cell_of_row _ _ _ _ _ _ h).trans rfl, (cell_of_row _ _ _ _ _ _ h).trans rfl, (cell_of_row _ _ _ _ _ _ h).trans rfl⟩
theorem NodeAt.fr {w w' : World} {X : Nat → Prop} {g : Nat} {p f : Pt} {lv rv : Value} {n : Nat} (h : NodeAt w g p f lv rv n) (hf : Fr w w' X) (hx : ¬ X g) : NodeAt w' g p f lv rv n := by
  unfold NodeAt at *
  rw [hf.block g (Array.getElem?_eq_some_iff.1 h).1 hx]
  exact h
theorem NodeC.fr {w w' : World} {X : Nat → Prop} {g : Nat} {p f : Pt} {lv rv : Value} {n : Nat} (h : NodeC w g p f lv rv n) (hf : Fr w w' X) (hx : ¬ X g) : NodeC w' g p f lv rv n :=
  ⟨hf.cell' hx h.c0, hf.cell' hx h.c1, hf.cell' hx h.c2, hf.cell' hx h.c3, hf.cell' hx h.c4, hf.cell' hx h.c5, hf.cell' hx h.c6, hf.cell' hx h.c7, hf.cell' hx h.c8⟩
theorem NodeAt.frozen {w : World} {g : Nat} {p f : Pt} {lv rv : Value} {n : Nat} (h : NodeAt w g p f lv rv n) (j : Nat) : w.frozen? ⟨g, j, none⟩ = false := by
  unfold NodeAt at h
  simp [World.frozen?, h]
/-- A tree in memory; S: its blocks. -/
def TreeAt (w : World) (base : Nat) : PT → Value → (Nat → Prop) → Prop
  | .nil, v, S => v = .pointer none ∧ ∀ k, ¬ S k
  | .node p f l r, v, S => ∃ (g : Nat) (lv rv : Value) (Sl Sr : Nat → Prop), v = .pointer (some ⟨g, 0, none⟩) ∧ base ≤ g ∧ NodeAt w g p f lv rv (l.size + r.size + 1) ∧ TreeAt w base l lv Sl ∧ TreeAt w base r rv Sr ∧ ¬ Sl g ∧ ¬ Sr g ∧ (∀ k, Sl k → ¬ Sr k) ∧ ∀ k, S k ↔ (k = g ∨ Sl k ∨ Sr k)
theorem TreeAt.fr {w w' : World} {base : Nat} {X : Nat → Prop} (hf : Fr w w' X) : ∀ {t : PT} {v : Value} {S : Nat → Prop}, TreeAt w base t v S → (∀ k, S k → ¬ X k) → TreeAt w' base t v S
  | .nil, v, S, h, hx => h
  | .node p f l r, v, S, h, hx => by
    obtain ⟨g, lv, rv, Sl, Sr, h1, h2, h3, h4, h5, h6, h7, h8, h9⟩ := h
    exact ⟨g, lv, rv, Sl, Sr, h1, h2, h3.fr hf (hx g ((h9 g).2 (.inl rfl))), TreeAt.fr hf h4 (fun k hk => hx k ((h9 k).2 (.inr (.inl hk)))), TreeAt.fr hf h5 (fun k hk => hx k ((h9 k).2 (.inr (.inr hk)))), h6, h7, h8, h9⟩
theorem TreeAt.lt {w : World} {base : Nat} : ∀ {t : PT} {v : Value} {S : Nat → Prop}, TreeAt w base t v S → ∀ k, S k → base ≤ k ∧ k < w.heap.size
  | .nil, v, S, h, k, hk => absurd hk (h.2 k)
  | .node p f l r, v, S, h, k, hk => by
    obtain ⟨g, lv, rv, Sl, Sr, h1, h2, h3, h4, h5, h6, h7, h8, h9⟩ := h
    rcases (h9 k).1 hk with rfl | hk | hk
    · exact ⟨h2, (Array.getElem?_eq_some_iff.1 h3).1⟩
    · exact TreeAt.lt h4 k hk
    · exact TreeAt.lt h5 k hk
theorem weight_any {w : World} {base : Nat} {t : PT} {v : Value} {S : Nat → Prop} (h : TreeAt w base t v S) : Calls Try.prog 44 #[v] w fun e w' => e = .returned (.int .i64 (t.size : Int)) ∧ w' = w := by
  cases t with
  | nil =>
    obtain ⟨rfl, _⟩ := h
    go_enter Try.func44, Try.ntmps44
    go_wp2
    go_ret
    exact ⟨rfl, rfl⟩
  | node p f l r =>
    obtain ⟨g, lv, rv, Sl, Sr, rfl, _, h3, _⟩ := h
    obtain ⟨c0, c1, c2, c3, c4, c5, c6, c7, c8⟩ := h3.c
    clear h3
    show Calls Try.prog 44 _ w fun e w' => e = .returned (.int .i64 ((l.size + r.size + 1 : Nat) : Int)) ∧ w' = w
    generalize l.size + r.size + 1 = n at *
    go_enter Try.func44, Try.ntmps44
    go_wp2
    go_ret
    exact ⟨rfl, rfl⟩
set_option maxHeartbeats 4000000 in
theorem side_any {w : World} {g : Nat} {t f : Pt} {lv rv : Value} {n : Nat} (h : NodeAt w g t f lv rv n) (p : Pt) : Calls Try.prog 30 #[.pointer (some ⟨g, 0, none⟩), p.agg] w fun e w' => e = .returned (.pointer (some ⟨g, if aheadP p f then 6 else 7, none⟩)) ∧ Fr w w' (fun _ => False) := by
  have HC2 := hide (fun W => order_any p f W)
  have hab : decide (ordI p f < 0) = decide (aheadP p f) := decide_eq_decide.2 (ordI_neg p f)
  generalize ordI p f = r2 at *
  unfold Pt.agg at *
  have hlt := (Array.getElem?_eq_some_iff.1 h).1
  have P1 := box_pt w p
  have F0 := Fr.alloc w (.cells #[.int .i64 p.x, .int .i64 p.y, .int .i64 p.id] 28) (fun _ => False)
  have hc := h.c.fr F0 (fun h => h)
  have HS0 := hide (And.intro P1 hc)
  have HF0 := hide F0
  clear P1 F0 hc h
  go_enter Try.func30, Try.ntmps30
  go_wp2_with fail
  refine wp_region_K (fun z => decide (z < 5)) (fun U : World => PtAt U w.heap.size 0 p ∧ NodeC U g t f lv rv n) (by kernel_rfl) ?_
  have hS : (fun U : World => PtAt U w.heap.size 0 p ∧ NodeC U g t f lv rv n) (w.alloc (.cells #[.int .i64 p.x, .int .i64 p.y, .int .i64 p.id] 28)).drew := ⟨HS0.out.1.fr (Fr.drew _ (fun _ => False)) (fun h => h), HS0.out.2.fr (Fr.drew _ (fun _ => False)) (fun h => h)⟩
  have HF1 := hide ((HF0.out.trans (Fr.drew _ (fun _ => False))).mono (Y := fun _ => False) (fun _ _ h => h.elim id id))
  clear HS0 HF0
  generalize (w.alloc (.cells #[.int .i64 p.x, .int .i64 p.y, .int .i64 p.id] 28)).drew = U at *
  refine wpAnyK_takeTo 0 (some 5) (.agg #[.int .i64 p.x, .int .i64 p.y, .int .i64 p.id]) [5, 6] rfl rfl (by kernel_rfl) (by kernel_rfl) (by kernel_rfl) (by kernel_rfl) (fun _ _ _ h => h) hS (Or.inl ⟨rfl, fun w1 hw1 => by obtain ⟨⟨q1, q2, q3⟩, ⟨c0, c1, c2, c3, c4, c5, c6, c7, c8⟩⟩ := hw1; go_simp⟩) ?_
  simp only [Act.put, List.setIfInBounds_toArray, List.set_cons_zero, List.set_cons_succ]
  refine wpAnyK_takeTo 1 (some 6) (.pointer (some ⟨g, 0, none⟩)) [2, 3, 4, 5, 6] rfl rfl (by kernel_rfl) (by kernel_rfl) (by kernel_rfl) (by kernel_rfl) (fun _ _ _ h => h) hS (Or.inl ⟨rfl, fun w1 hw1 => by obtain ⟨⟨q1, q2, q3⟩, ⟨c0, c1, c2, c3, c4, c5, c6, c7, c8⟩⟩ := hw1; go_simp⟩) ?_
  simp only [Act.put, List.setIfInBounds_toArray, List.set_cons_zero, List.set_cons_succ]
  refine wpAnyK_takeTo 2 (some 7) (.pointer (some ⟨g, 0, none⟩)) [3, 4, 5, 6] rfl rfl (by kernel_rfl) (by kernel_rfl) (by kernel_rfl) (by kernel_rfl) (fun _ _ _ h => h) hS (Or.inl ⟨rfl, fun w1 hw1 => by obtain ⟨⟨q1, q2, q3⟩, ⟨c0, c1, c2, c3, c4, c5, c6, c7, c8⟩⟩ := hw1; go_simp⟩) ?_
  simp only [Act.put, List.setIfInBounds_toArray, List.set_cons_zero, List.set_cons_succ]
  refine wpAnyK_takeTo 3 (some 8) (.pointer (some ⟨g, 3, none⟩)) [4, 5, 6] rfl rfl (by kernel_rfl) (by kernel_rfl) (by kernel_rfl) (by kernel_rfl) (fun _ _ _ h => h) hS (Or.inl ⟨rfl, fun w1 hw1 => by obtain ⟨⟨q1, q2, q3⟩, ⟨c0, c1, c2, c3, c4, c5, c6, c7, c8⟩⟩ := hw1; go_simp⟩) ?_
  simp only [Act.put, List.setIfInBounds_toArray, List.set_cons_zero, List.set_cons_succ]
  refine wpAnyK_takeTo 4 (some 9) (.agg #[.int .i64 f.x, .int .i64 f.y, .int .i64 f.id]) [5, 6] rfl rfl (by kernel_rfl) (by kernel_rfl) (by kernel_rfl) (by kernel_rfl) (fun _ _ _ h => h) hS (Or.inl ⟨rfl, fun w1 hw1 => by obtain ⟨⟨q1, q2, q3⟩, ⟨c0, c1, c2, c3, c4, c5, c6, c7, c8⟩⟩ := hw1; go_simp⟩) ?_
  simp only [Act.put, List.setIfInBounds_toArray, List.set_cons_zero, List.set_cons_succ]
  refine wpAnyK_one (i := 5) (by kernel_rfl) rfl rfl ?_
  refine wp_call_to (some 10) rfl 22 #[.agg #[.int .i64 p.x, .int .i64 p.y, .int .i64 p.id], .agg #[.int .i64 f.x, .int .i64 f.y, .int .i64 f.id]] (by go_simp) (HC2.out _) ?_
  rintro e U2 ⟨rfl, f2⟩
  refine ⟨_, rfl, fun h => by simp at h, ?_⟩
  simp only [Act.put, List.setIfInBounds_toArray, List.set_cons_zero, List.set_cons_succ]
  have HF2 := hide ((HF1.out.trans f2).mono (Y := fun _ => False) (fun _ _ h => h.elim id id))
  clear hS HF1 f2
  refine wpAnyK_one (i := 6) (by kernel_rfl) rfl rfl ?_
  go_simp
  refine wpAnyK_done (by kernel_rfl) ?_ _
  by_cases ha : aheadP p f
  · have hb : decide (aheadP p f) = true := by simp [ha]
    go_wp2
    go_ret
    exact ⟨rfl, HF2.out⟩
  · have hb : decide (aheadP p f) = false := by simp [ha]
    go_wp2
    go_ret
    exact ⟨rfl, HF2.out⟩
end Go.Proofs.Ytklnaeldhdhmiaa
