/- add. -/
import Derived.Test.YtigkinakhijfoaaGreatPsJ
namespace Go.Proofs.YtigkinakhijfoaaGreat.Ps
open Go.RowKit Go.Sort
set_option maxRecDepth 100000
set_option linter.unusedVariables false
set_option linter.unusedSimpArgs false

def BoxAt (w : World) (g : Nat) (p : Pt) : Prop := w.heap[g]? = some (.cells #[.int .i64 p.x, .int .i64 p.y, .int .i64 p.id] 35 (0, 0))
theorem BoxAt.fr {w w' : World} {X : Nat → Prop} {g : Nat} {p : Pt} (h : BoxAt w g p) (hf : Fr w w' X) (hx : ¬ X g) : BoxAt w' g p := by
  unfold BoxAt at *
  rw [hf.block g (Array.getElem?_eq_some_iff.1 h).1 hx]
  exact h
theorem BoxAt.pt {w : World} {g : Nat} {p : Pt} (h : BoxAt w g p) : PtAt w g 0 p := ⟨(cell_of_row _ _ _ _ _ _ h).trans rfl, (cell_of_row _ _ _ _ _ _ h).trans rfl, (cell_of_row _ _ _ _ _ _ h).trans rfl⟩
theorem BoxAt.frozen {w : World} {g : Nat} {p : Pt} (h : BoxAt w g p) (j : Nat) : w.frozen? ⟨g, j, none⟩ = false := by unfold BoxAt at h; simp [World.frozen?, h]
theorem _root_.Go.Proofs.YtigkinakhijfoaaGreat.Fr.set3 (w : World) (g a b c : Nat) (x y z : Value) : Fr w (((w.setCell ⟨g, a, none⟩ x).setCell ⟨g, b, none⟩ y).setCell ⟨g, c, none⟩ z) (fun k => k = g) :=
  (((Fr.setCell w ⟨g, a, none⟩ _).trans (Fr.setCell _ ⟨g, b, none⟩ _)).trans (Fr.setCell _ ⟨g, c, none⟩ _)).mono (fun k _ h => by rcases h with (h | h) | h; exact h; exact h; exact h)
theorem NodeAt.top {w : World} {g : Nat} {p f : Pt} {lv rv : Value} {n : Nat} (h : NodeAt w g p f lv rv n) (q : Pt) : NodeAt (((w.setCell ⟨g, 0, none⟩ (.int .i64 q.x)).setCell ⟨g, 1, none⟩ (.int .i64 q.y)).setCell ⟨g, 2, none⟩ (.int .i64 q.id)) g q f lv rv n := by
  unfold NodeAt at h ⊢
  have h1 := heap_setCell_here w g 0 (.int .i64 q.x) _ 89 (0, 0) h
  have h2 := heap_setCell_here _ g 1 (.int .i64 q.y) _ 89 (0, 0) h1
  have h3 := heap_setCell_here _ g 2 (.int .i64 q.id) _ 89 (0, 0) h2
  rw [h3]
  rfl
theorem BoxAt.put {w : World} {g : Nat} {p : Pt} (h : BoxAt w g p) (q : Pt) : BoxAt (((w.setCell ⟨g, 0, none⟩ (.int .i64 q.x)).setCell ⟨g, 1, none⟩ (.int .i64 q.y)).setCell ⟨g, 2, none⟩ (.int .i64 q.id)) g q := by
  unfold BoxAt at h ⊢
  have h1 := heap_setCell_here w g 0 (.int .i64 q.x) _ 35 (0, 0) h
  have h2 := heap_setCell_here _ g 1 (.int .i64 q.y) _ 35 (0, 0) h1
  have h3 := heap_setCell_here _ g 2 (.int .i64 q.id) _ 35 (0, 0) h2
  rw [h3]
  rfl
theorem NodeAt.size {w : World} {g : Nat} {p f : Pt} {lv rv : Value} {n : Nat} (h : NodeAt w g p f lv rv n) (m : Nat) : NodeAt (w.setCell ⟨g, 8, none⟩ (.int .i64 (m : Int))) g p f lv rv m := by
  unfold NodeAt at h ⊢
  rw [heap_setCell_here w g 8 (.int .i64 (m : Int)) _ 89 (0, 0) h]
  rfl
theorem NodeAt.left {w : World} {g : Nat} {p f : Pt} {lv rv : Value} {n : Nat} (h : NodeAt w g p f lv rv n) (u : Value) : NodeAt (w.setCell ⟨g, 6, none⟩ u) g p f u rv n := by
  unfold NodeAt at h ⊢
  rw [heap_setCell_here w g 6 u _ 89 (0, 0) h]
  rfl
theorem NodeAt.right {w : World} {g : Nat} {p f : Pt} {lv rv : Value} {n : Nat} (h : NodeAt w g p f lv rv n) (u : Value) : NodeAt (w.setCell ⟨g, 7, none⟩ u) g p f lv u n := by
  unfold NodeAt at h ⊢
  rw [heap_setCell_here w g 7 u _ 89 (0, 0) h]
  rfl
/-- Where a point goes in: the node, the two trees, the box of the point. -/
structure AS (w : World) (base g gp : Nat) (q f : Pt) (la ra : Option Addr) (n : Nat) (l r : PT) (Sl Sr : Nat → Prop) (s : Pt) (W : World) : Prop where
  no : NodeAt W g q f (.pointer la) (.pointer ra) n
  bx : BoxAt W gp s
  tl : TreeAt W base l (.pointer la) Sl
  tr : TreeAt W base r (.pointer ra) Sr
  fr : Fr w W (fun k => k = g)
  sz : gp + 1 ≤ W.heap.size
section
variable {w : World} {base g gp : Nat} {q f : Pt} {la ra : Option Addr} {n : Nat} {l r : PT} {Sl Sr : Nat → Prop} {s : Pt} {W W' : World}
theorem AS.same (h : AS w base g gp q f la ra n l r Sl Sr s W) (hf : Fr W W' (fun _ => False)) : AS w base g gp q f la ra n l r Sl Sr s W' :=
  ⟨h.no.fr hf (fun h => h), h.bx.fr hf (fun h => h), h.tl.fr hf (fun _ _ h => h), h.tr.fr hf (fun _ _ h => h), (h.fr.trans hf).mono (fun k _ h => by rcases h with h | h; exact h; exact h.elim), Nat.le_trans h.sz hf.size⟩
theorem AS.set (h : AS w base g gp q f la ra n l r Sl Sr s W) (hf : Fr W W' (fun k => k = g)) {q' : Pt} {n' : Nat} (hn : NodeAt W' g q' f (.pointer la) (.pointer ra) n') (hgp : gp ≠ g) (h1 : ¬ Sl g) (h2 : ¬ Sr g) : AS w base g gp q' f la ra n' l r Sl Sr s W' :=
  ⟨hn, h.bx.fr hf (fun h => hgp h), h.tl.fr hf (fun k hk h => h1 (by have h : k = g := h; rw [← h]; exact hk)), h.tr.fr hf (fun k hk h => h2 (by have h : k = g := h; rw [← h]; exact hk)), (h.fr.trans hf).mono (fun k _ h => by rcases h with h | h; exact h; exact h), Nat.le_trans h.sz hf.size⟩
theorem AS.box (h : AS w base g gp q f la ra n l r Sl Sr s W) (hf : Fr W W' (fun k => k = gp)) {s' : Pt} (hb : BoxAt W' gp s') (hgp : gp ≠ g) (h1 : ¬ Sl gp) (h2 : ¬ Sr gp) (hw : w.heap.size ≤ gp) : AS w base g gp q f la ra n l r Sl Sr s' W' :=
  ⟨h.no.fr hf (fun h => hgp h.symm), hb, h.tl.fr hf (fun k hk h => h1 (by have h : k = gp := h; rw [← h]; exact hk)), h.tr.fr hf (fun k hk h => h2 (by have h : k = gp := h; rw [← h]; exact hk)), (h.fr.trans hf).mono (fun k hk h => by rcases h with h | h; exact h; (have h : k = gp := h; omega)), Nat.le_trans h.sz hf.size⟩
end
def AddPost (w : World) (base : Nat) (L : List Pt) (S : Nat → Prop) (e : Ending) (w' : World) : Prop :=
  ∃ (t' : PT) (v' : Value) (S' : Nat → Prop), e = .returned v' ∧ TreeAt w' base t' v' S' ∧ t'.Ok ∧ t'.pts.Perm L ∧ (∀ k, S' k → S k ∨ w.heap.size ≤ k) ∧ Fr w w' S
set_option maxHeartbeats 16000000 in
theorem add_any : ∀ (t : PT) (w : World) (base : Nat) (v : Value) (S : Nat → Prop) (h : TreeAt w base t v S) (hok : t.Ok) (p : Pt) (hid : Ids (p :: t.pts)) (hsz : t.size + 1 ≤ 1099511627776) (hb : base ≤ w.heap.size),
    Calls Tryz.prog 19 #[v, p.agg] w fun e w' => AddPost w base (p :: t.pts) S e w' := by
  intro t
  induction t with
  | nil =>
    intro w base v S h hok p hid hsz hb
    obtain ⟨rfl, hS⟩ := h
    unfold Pt.agg
    have hbx := box_pt w p
    obtain ⟨x1, x2, x3⟩ := hbx
    obtain ⟨A, hA⟩ : ∃ A : Obj, A = .cells #[.int .i64 p.x, .int .i64 p.y, .int .i64 p.id] 35 := ⟨_, rfl⟩
    obtain ⟨NB, hNB⟩ : ∃ NB : Obj, NB = .cells #[.int .i64 p.x, .int .i64 p.y, .int .i64 p.id, .int .i64 p.x, .int .i64 p.y, .int .i64 p.id, .pointer none, .pointer none, .int .i64 1] 89 := ⟨_, rfl⟩
    have HRES : Hid (AddPost w base (p :: PT.nil.pts) S (.returned (.pointer (some ⟨w.heap.size + 1, 0, none⟩))) ((w.alloc A).alloc NB)) := hide (by
      have hz : (w.alloc A).heap.size = w.heap.size + 1 := by simp
      have b2 := heap_alloc_new (w.alloc A) NB
      rw [hz] at b2
      have hnil : TreeAt ((w.alloc A).alloc NB) base .nil (.pointer none) (fun _ => False) := ⟨rfl, fun _ h => h⟩
      refine ⟨.node p p .nil .nil, _, fun k => k = w.heap.size + 1, rfl, ⟨w.heap.size + 1, .pointer none, .pointer none, fun _ => False, fun _ => False, rfl, by omega, ?_, hnil, hnil, fun h => h, fun h => h, fun _ h => h.elim, fun k => by simp⟩, ⟨fun q hq => by simp [PT.pts] at hq, fun q hq => by simp [PT.pts] at hq, fun q hq => by simp [PT.pts] at hq, trivial, trivial⟩, List.Perm.refl _, fun k hk => .inr (by omega), ((Fr.alloc w A (fun _ => False)).trans (Fr.alloc _ NB (fun _ => False))).mono (fun _ _ h => by rcases h with h | h; exact h.elim; exact h.elim)⟩
      unfold NodeAt
      rw [b2, hNB]
      rfl)
    go_enter Tryz.func19, Tryz.ntmps19
    go_wp2
    go_ret
    rw [← hA, ← hNB]
    exact HRES.out
  | node t0 f l r ihl ihr =>
    intro w base v S h hok p hid hsz hb
    obtain ⟨g, cl, cr, Sl, Sr, rfl, hg, hN, hl, hr, d1, d2, d3, hS0⟩ := h
    obtain ⟨la, rfl⟩ := hl.ptr
    obtain ⟨ra, rfl⟩ := hr.ptr
    have hsz2 : l.size + r.size + 1 + 1 ≤ 1099511627776 := hsz
    have hgw : g < w.heap.size := (Array.getElem?_eq_some_iff.1 hN).1
    have HLL : Hid (∀ k, Sl k → base ≤ k ∧ k < w.heap.size) := hide hl.lt
    have HRR : Hid (∀ k, Sr k → base ≤ k ∧ k < w.heap.size) := hide hr.lt
    have HAB := hide (fun U => above_any p t0 U)
    generalize hab : decide (aboveP p t0) = b at HAB
    have HSD := hide (fun (U : World) (q s : Pt) (m : Nat) (hh : NodeAt U g q f (.pointer la) (.pointer ra) m) => side_any hh s)
    unfold Pt.agg at HAB HSD ⊢
    have FA := Fr.alloc w (.cells #[.int .i64 p.x, .int .i64 p.y, .int .i64 p.id] 35) (fun _ => False)
    have hbn : BoxAt (w.alloc (.cells #[.int .i64 p.x, .int .i64 p.y, .int .i64 p.id] 35)) w.heap.size p := heap_alloc_new w _
    have HA0 : Hid (AS w base g w.heap.size t0 f la ra (l.size + r.size + 1) l r Sl Sr p (w.alloc (.cells #[.int .i64 p.x, .int .i64 p.y, .int .i64 p.id] 35))) := hide ⟨hN.fr FA (fun h => h), hbn, hl.fr FA (fun _ _ h => h), hr.fr FA (fun _ _ h => h), FA.mono (fun _ _ h => h.elim), by simp⟩
    have HG : Hid (g < w.heap.size ∧ base ≤ g) := hide ⟨hgw, hg⟩
    have HS0 := hide hS0
    have HOK := hide hok
    have HID := hide hid
    have HIL := hide ihl
    have HIR := hide ihr
    have HD := hide (And.intro d1 (And.intro d2 d3))
    have HB := hide hb
    have hgp : w.heap.size ≠ g := by omega
    generalize hn : l.size + r.size + 1 = n at HA0 hsz2
    have HNN := hide hn
    have hn1 : n ≤ 1099511627775 := by omega
    clear hn hok ihl ihr hN hl hr d1 d2 d3 hS0 FA hbn hid hsz hb hg hsz2
    go_enter Tryz.func19, Tryz.ntmps19
    go_wp2_with fail
    refine wp_region_K (fun z => decide (z < 5)) (fun U : World => PtAt U w.heap.size 0 p ∧ NodeC U g t0 f (.pointer la) (.pointer ra) n) (by kernel_rfl) ?_
    have HA1 := hide (HA0.out.same (Fr.drew _ (fun _ => False)))
    clear HA0
    generalize (w.alloc (.cells #[.int .i64 p.x, .int .i64 p.y, .int .i64 p.id] 35)).drew = U at *
    generalize hgpe : w.heap.size = gp at *
    have HGP := hide hgpe
    clear hgpe
    have hS : (fun U : World => PtAt U gp 0 p ∧ NodeC U g t0 f (.pointer la) (.pointer ra) n) U := ⟨HA1.out.bx.pt, HA1.out.no.c⟩
    refine wpAnyK_takeTo 0 (some 12) (.agg #[.int .i64 p.x, .int .i64 p.y, .int .i64 p.id]) [5] rfl rfl (by kernel_rfl) (by kernel_rfl) (by kernel_rfl) (by kernel_rfl) (fun _ _ _ h => h) hS (Or.inl ⟨rfl, fun w1 hw1 => by obtain ⟨⟨q1, q2, q3⟩, ⟨c0, c1, c2, c3, c4, c5, c6, c7, c8⟩⟩ := hw1; go_simp⟩) ?_
    simp only [Act.put, List.setIfInBounds_toArray, List.set_cons_zero, List.set_cons_succ]
    refine wpAnyK_takeTo 1 (some 13) (.pointer (some ⟨g, 0, none⟩)) [2, 3, 4, 5] rfl rfl (by kernel_rfl) (by kernel_rfl) (by kernel_rfl) (by kernel_rfl) (fun _ _ _ h => h) hS (Or.inl ⟨rfl, fun w1 hw1 => by obtain ⟨⟨q1, q2, q3⟩, ⟨c0, c1, c2, c3, c4, c5, c6, c7, c8⟩⟩ := hw1; go_simp⟩) ?_
    simp only [Act.put, List.setIfInBounds_toArray, List.set_cons_zero, List.set_cons_succ]
    refine wpAnyK_takeTo 2 (some 14) (.pointer (some ⟨g, 0, none⟩)) [3, 4, 5] rfl rfl (by kernel_rfl) (by kernel_rfl) (by kernel_rfl) (by kernel_rfl) (fun _ _ _ h => h) hS (Or.inl ⟨rfl, fun w1 hw1 => by obtain ⟨⟨q1, q2, q3⟩, ⟨c0, c1, c2, c3, c4, c5, c6, c7, c8⟩⟩ := hw1; go_simp⟩) ?_
    simp only [Act.put, List.setIfInBounds_toArray, List.set_cons_zero, List.set_cons_succ]
    refine wpAnyK_takeTo 3 (some 15) (.pointer (some ⟨g, 0, none⟩)) [4, 5] rfl rfl (by kernel_rfl) (by kernel_rfl) (by kernel_rfl) (by kernel_rfl) (fun _ _ _ h => h) hS (Or.inl ⟨rfl, fun w1 hw1 => by obtain ⟨⟨q1, q2, q3⟩, ⟨c0, c1, c2, c3, c4, c5, c6, c7, c8⟩⟩ := hw1; go_simp⟩) ?_
    simp only [Act.put, List.setIfInBounds_toArray, List.set_cons_zero, List.set_cons_succ]
    refine wpAnyK_takeTo 4 (some 16) (.agg #[.int .i64 t0.x, .int .i64 t0.y, .int .i64 t0.id]) [5] rfl rfl (by kernel_rfl) (by kernel_rfl) (by kernel_rfl) (by kernel_rfl) (fun _ _ _ h => h) hS (Or.inl ⟨rfl, fun w1 hw1 => by obtain ⟨⟨q1, q2, q3⟩, ⟨c0, c1, c2, c3, c4, c5, c6, c7, c8⟩⟩ := hw1; go_simp⟩) ?_
    simp only [Act.put, List.setIfInBounds_toArray, List.set_cons_zero, List.set_cons_succ]
    refine wpAnyK_one (i := 5) (by kernel_rfl) rfl rfl ?_
    refine wp_call_to (some 17) rfl 34 #[.agg #[.int .i64 p.x, .int .i64 p.y, .int .i64 p.id], .agg #[.int .i64 t0.x, .int .i64 t0.y, .int .i64 t0.id]] (by go_simp) (HAB.out _) ?_
    rintro e U2 ⟨rfl, f2⟩
    refine ⟨_, rfl, fun h => by simp at h, ?_⟩
    simp only [Act.put, List.setIfInBounds_toArray, List.set_cons_zero, List.set_cons_succ]
    have HA2 := hide (HA1.out.same f2)
    clear hS HA1 f2 HAB
    refine wpAnyK_done (by kernel_rfl) ?_ _
    cases b with
    | true =>
      have HQS : Hid (aboveP p t0) := hide (of_decide_eq_true hab)
      clear hab
      go_wp2_with fail
      refine wp_region_K (fun z => decide (z < 6)) (fun U : World => PtAt U gp 0 p ∧ NodeC U g t0 f (.pointer la) (.pointer ra) n) (by kernel_rfl) ?_
      have HA3 := hide (HA2.out.same (Fr.drew U2 (fun _ => False)))
      clear HA2
      generalize U2.drew = U3 at *
      obtain ⟨x1, x2, x3⟩ := HA3.out.bx.pt
      obtain ⟨c0, c1, c2, c3, c4, c5, c6, c7, c8⟩ := HA3.out.no.c
      have z0 := HA3.out.no.frozen 0
      have z1 := HA3.out.no.frozen 1
      have z2 := HA3.out.no.frozen 2
      obtain ⟨U5, hU5⟩ : ∃ U5, U5 = ((U3.setCell ⟨g, 0, none⟩ (.int .i64 p.x)).setCell ⟨g, 1, none⟩ (.int .i64 p.y)).setCell ⟨g, 2, none⟩ (.int .i64 p.id) := ⟨_, rfl⟩
      obtain ⟨U6, hU6⟩ : ∃ U6, U6 = ((U5.setCell ⟨gp, 0, none⟩ (.int .i64 t0.x)).setCell ⟨gp, 1, none⟩ (.int .i64 t0.y)).setCell ⟨gp, 2, none⟩ (.int .i64 t0.id) := ⟨_, rfl⟩
      have HA5 : Hid (AS w base g gp p f la ra n l r Sl Sr p U5) := hide (by rw [hU5]; exact HA3.out.set (Fr.set3 U3 g 0 1 2 _ _ _) (HA3.out.no.top p) hgp HD.out.1 HD.out.2.1)
      have HA4 : Hid (AS w base g gp p f la ra n l r Sl Sr t0 U6) := hide (by rw [hU6]; exact HA5.out.box (Fr.set3 U5 gp 0 1 2 _ _ _) (HA5.out.bx.put t0) hgp (fun h => by have := HLL.out _ h; omega) (fun h => by have := HRR.out _ h; omega) (by have := HGP.out; omega))
      obtain ⟨y1, y2, y3⟩ := HA5.out.bx.pt
      have y4 := HA5.out.bx.frozen 0
      have y5 := HA5.out.bx.frozen 1
      have y6 := HA5.out.bx.frozen 2
      have HU5 := hide hU5
      have HU6 := hide hU6
      clear hU5 hU6
      have hS : (fun U : World => PtAt U gp 0 p ∧ NodeC U g t0 f (.pointer la) (.pointer ra) n) U3 := ⟨HA3.out.bx.pt, HA3.out.no.c⟩
      refine wpAnyK_takeTo 0 (some 18) (.pointer (some ⟨g, 0, none⟩)) [6, 7, 8, 9] rfl rfl (by kernel_rfl) (by kernel_rfl) (by kernel_rfl) (by kernel_rfl) (fun _ _ _ h => h) hS (Or.inl ⟨rfl, fun w1 hw1 => by obtain ⟨⟨q1, q2, q3⟩, ⟨c0, c1, c2, c3, c4, c5, c6, c7, c8⟩⟩ := hw1; go_simp⟩) ?_
      simp only [Act.put, List.setIfInBounds_toArray, List.set_cons_zero, List.set_cons_succ]
      refine wpAnyK_takeTo 1 (some 19) (.agg #[.int .i64 p.x, .int .i64 p.y, .int .i64 p.id]) [6, 7, 8, 9] rfl rfl (by kernel_rfl) (by kernel_rfl) (by kernel_rfl) (by kernel_rfl) (fun _ _ _ h => h) hS (Or.inl ⟨rfl, fun w1 hw1 => by obtain ⟨⟨q1, q2, q3⟩, ⟨c0, c1, c2, c3, c4, c5, c6, c7, c8⟩⟩ := hw1; go_simp⟩) ?_
      simp only [Act.put, List.setIfInBounds_toArray, List.set_cons_zero, List.set_cons_succ]
      refine wpAnyK_takeTo 2 (some 20) (.pointer (some ⟨g, 0, none⟩)) [3, 4, 5, 6, 7, 8, 9] rfl rfl (by kernel_rfl) (by kernel_rfl) (by kernel_rfl) (by kernel_rfl) (fun _ _ _ h => h) hS (Or.inl ⟨rfl, fun w1 hw1 => by obtain ⟨⟨q1, q2, q3⟩, ⟨c0, c1, c2, c3, c4, c5, c6, c7, c8⟩⟩ := hw1; go_simp⟩) ?_
      simp only [Act.put, List.setIfInBounds_toArray, List.set_cons_zero, List.set_cons_succ]
      refine wpAnyK_takeTo 3 (some 21) (.pointer (some ⟨g, 0, none⟩)) [4, 5, 6, 7, 8, 9] rfl rfl (by kernel_rfl) (by kernel_rfl) (by kernel_rfl) (by kernel_rfl) (fun _ _ _ h => h) hS (Or.inl ⟨rfl, fun w1 hw1 => by obtain ⟨⟨q1, q2, q3⟩, ⟨c0, c1, c2, c3, c4, c5, c6, c7, c8⟩⟩ := hw1; go_simp⟩) ?_
      simp only [Act.put, List.setIfInBounds_toArray, List.set_cons_zero, List.set_cons_succ]
      refine wpAnyK_takeTo 4 (some 22) (.pointer (some ⟨g, 0, none⟩)) [5, 6, 7, 8, 9] rfl rfl (by kernel_rfl) (by kernel_rfl) (by kernel_rfl) (by kernel_rfl) (fun _ _ _ h => h) hS (Or.inl ⟨rfl, fun w1 hw1 => by obtain ⟨⟨q1, q2, q3⟩, ⟨c0, c1, c2, c3, c4, c5, c6, c7, c8⟩⟩ := hw1; go_simp⟩) ?_
      simp only [Act.put, List.setIfInBounds_toArray, List.set_cons_zero, List.set_cons_succ]
      refine wpAnyK_takeTo 5 (some 23) (.agg #[.int .i64 t0.x, .int .i64 t0.y, .int .i64 t0.id]) [6, 7, 8, 9] rfl rfl (by kernel_rfl) (by kernel_rfl) (by kernel_rfl) (by kernel_rfl) (fun _ _ _ h => h) hS (Or.inl ⟨rfl, fun w1 hw1 => by obtain ⟨⟨q1, q2, q3⟩, ⟨c0, c1, c2, c3, c4, c5, c6, c7, c8⟩⟩ := hw1; go_simp⟩) ?_
      simp only [Act.put, List.setIfInBounds_toArray, List.set_cons_zero, List.set_cons_succ]
      refine wpAnyK_one (i := 6) (by kernel_rfl) rfl rfl ?_
      go_simp
      refine wpAnyK_one (i := 7) (by kernel_rfl) rfl rfl ?_
      go_simp
      refine wpAnyK_one (i := 8) (by kernel_rfl) rfl rfl ?_
      go_simp
      rw [← HU5.out]
      refine wpAnyK_one (i := 9) (by kernel_rfl) rfl rfl ?_
      go_simp
      rw [← HU6.out]
      refine wpAnyK_done (by kernel_rfl) ?_ _
      clear hS x1 x2 x3 c0 c1 c2 c3 c4 c5 c6 c7 c8 z0 z1 z2 y1 y2 y3 y4 y5 y6 HU5 HU6 HA3 HA5
      by_cases ha : aheadP t0 f
      ·
        obtain ⟨x1, x2, x3⟩ := HA4.out.bx.pt
        obtain ⟨c0, c1, c2, c3, c4, c5, c6, c7, c8⟩ := HA4.out.no.c
        have z8 := HA4.out.no.frozen 8
        obtain ⟨U7, hU7⟩ : ∃ U7, U7 = U6.setCell ⟨g, 8, none⟩ (.int .i64 ((n : Int) + 1)) := ⟨_, rfl⟩
        have HA7 : Hid (AS w base g gp p f la ra (n + 1) l r Sl Sr t0 U7) := hide (by
          rw [hU7]
          have := HA4.out.no.size (n + 1)
          rw [show (((n + 1 : Nat) : Int)) = (n : Int) + 1 by omega] at this
          exact HA4.out.set (Fr.setCell U6 ⟨g, 8, none⟩ _) this hgp HD.out.1 HD.out.2.1)
        obtain ⟨y1, y2, y3⟩ := HA7.out.bx.pt
        have HSI := hide (HSD.out U7 p t0 (n + 1) HA7.out.no)
        rw [if_pos ha] at HSI
        have HU7 := hide hU7
        clear hU7
        go_wp2_with (rw [← HU7.out])
        refine HSI.out.mono ?_
        rintro e U8 ⟨rfl, f8⟩
        have HA8 := hide (HA7.out.same f8)
        clear f8 HSI HA7 HA4 x1 x2 x3 c0 c1 c2 c3 c4 c5 c6 c7 c8 z8 y1 y2 y3 HU7 HSD
        go_wp2_with fail
        refine wp_region_K (fun z => decide (z < 6)) (fun U : World => PtAt U gp 0 t0 ∧ NodeC U g p f (.pointer la) (.pointer ra) (n + 1)) (by kernel_rfl) ?_
        have HA9 := hide (HA8.out.same (Fr.drew U8 (fun _ => False)))
        clear HA8
        generalize U8.drew = U9 at *
        have hS : (fun U : World => PtAt U gp 0 t0 ∧ NodeC U g p f (.pointer la) (.pointer ra) (n + 1)) U9 := ⟨HA9.out.bx.pt, HA9.out.no.c⟩
        refine wpAnyK_takeTo 0 (some 36) (.pointer (some ⟨g, 6, none⟩)) [6, 7] rfl rfl (by kernel_rfl) (by kernel_rfl) (by kernel_rfl) (by kernel_rfl) (fun _ _ _ h => h) hS (Or.inl ⟨rfl, fun w1 hw1 => by obtain ⟨⟨q1, q2, q3⟩, ⟨c0, c1, c2, c3, c4, c5, c6, c7, c8⟩⟩ := hw1; go_simp⟩) ?_
        simp only [Act.put, List.setIfInBounds_toArray, List.set_cons_zero, List.set_cons_succ]
        refine wpAnyK_takeTo 1 (some 37) (.pointer (some ⟨g, 6, none⟩)) [2, 3, 5, 6, 7] rfl rfl (by kernel_rfl) (by kernel_rfl) (by kernel_rfl) (by kernel_rfl) (fun _ _ _ h => h) hS (Or.inl ⟨rfl, fun w1 hw1 => by obtain ⟨⟨q1, q2, q3⟩, ⟨c0, c1, c2, c3, c4, c5, c6, c7, c8⟩⟩ := hw1; go_simp⟩) ?_
        simp only [Act.put, List.setIfInBounds_toArray, List.set_cons_zero, List.set_cons_succ]
        refine wpAnyK_takeTo 2 (some 38) (.pointer (some ⟨g, 6, none⟩)) [3, 5, 6, 7] rfl rfl (by kernel_rfl) (by kernel_rfl) (by kernel_rfl) (by kernel_rfl) (fun _ _ _ h => h) hS (Or.inl ⟨rfl, fun w1 hw1 => by obtain ⟨⟨q1, q2, q3⟩, ⟨c0, c1, c2, c3, c4, c5, c6, c7, c8⟩⟩ := hw1; go_simp⟩) ?_
        simp only [Act.put, List.setIfInBounds_toArray, List.set_cons_zero, List.set_cons_succ]
        refine wpAnyK_takeTo 3 (some 39) (.pointer la) [5, 6, 7] rfl rfl (by kernel_rfl) (by kernel_rfl) (by kernel_rfl) (by kernel_rfl) (fun _ _ _ h => h) hS (Or.inl ⟨rfl, fun w1 hw1 => by obtain ⟨⟨q1, q2, q3⟩, ⟨c0, c1, c2, c3, c4, c5, c6, c7, c8⟩⟩ := hw1; go_simp⟩) ?_
        simp only [Act.put, List.setIfInBounds_toArray, List.set_cons_zero, List.set_cons_succ]
        refine wpAnyK_takeTo 4 (some 40) (.agg #[.int .i64 t0.x, .int .i64 t0.y, .int .i64 t0.id]) [5, 6, 7] rfl rfl (by kernel_rfl) (by kernel_rfl) (by kernel_rfl) (by kernel_rfl) (fun _ _ _ h => h) hS (Or.inl ⟨rfl, fun w1 hw1 => by obtain ⟨⟨q1, q2, q3⟩, ⟨c0, c1, c2, c3, c4, c5, c6, c7, c8⟩⟩ := hw1; go_simp⟩) ?_
        simp only [Act.put, List.setIfInBounds_toArray, List.set_cons_zero, List.set_cons_succ]
        refine wpAnyK_one (i := 5) (by kernel_rfl) rfl rfl ?_
        have HMEM : Hid (∀ z, z ∈ (PT.node t0 f l r).pts → ¬ (z.id = p.id)) := hide (fun z hz => (List.pairwise_cons.1 HID.out).1 z hz |>.symm)
        have hidc : Ids (t0 :: l.pts) := by
          have h0 : (p :: t0 :: (l.pts ++ r.pts)).Perm (p :: t0 :: (l.pts ++ r.pts)) := List.Perm.refl _
          have h1 : Ids (p :: t0 :: (l.pts ++ r.pts)) := Ids.perm (L := p :: t0 :: (l.pts ++ r.pts)) HID.out h0.symm
          have h2 : Ids (t0 :: (l.pts ++ r.pts)) := (List.pairwise_cons.1 h1).2
          exact List.Pairwise.sublist (List.Sublist.cons_cons t0 (List.sublist_append_left _ _)) h2
        refine wp_call_to (some 41) rfl 19 #[.pointer la, .agg #[.int .i64 t0.x, .int .i64 t0.y, .int .i64 t0.id]] (by go_simp) (HIL.out U9 base _ Sl HA9.out.tl HOK.out.2.2.2.1 t0 hidc (by have := HNN.out; omega) (by have := HA9.out.fr.size; have := HB.out; have := HGP.out; omega)) ?_
        rintro e U10 ⟨t1, v1, S1, rfl, ht1, hok1, hp1, hS1, hf1⟩
        obtain ⟨na, rfl⟩ := ht1.ptr
        have hsz9 : gp + 1 ≤ U9.heap.size := HA9.out.sz
        have hgS : ¬ Sl g := HD.out.1
        have hbS : ¬ Sl gp := fun h => by have := HLL.out _ h; have := HGP.out; omega
        have h10n : NodeAt U10 g p f (.pointer la) (.pointer ra) (n + 1) := HA9.out.no.fr hf1 hgS
        have h10b : BoxAt U10 gp t0 := HA9.out.bx.fr hf1 hbS
        have hS2 : (fun U : World => PtAt U gp 0 t0 ∧ NodeC U g p f (.pointer la) (.pointer ra) (n + 1)) U10 := ⟨h10b.pt, h10n.c⟩
        refine ⟨_, rfl, fun _ => hS2, ?_⟩
        simp only [Act.put, List.setIfInBounds_toArray, List.set_cons_zero, List.set_cons_succ]
        obtain ⟨U11, hU11⟩ : ∃ U11, U11 = U10.setCell ⟨g, 6, none⟩ (.pointer na) := ⟨_, rfl⟩
        have F11 : Fr U10 U11 (fun k => k = g) := by rw [hU11]; exact Fr.setCell U10 ⟨g, 6, none⟩ _
        have h11n : NodeAt U11 g p f (.pointer na) (.pointer ra) (n + 1) := by rw [hU11]; exact h10n.left _
        have hSO : ∀ k, S1 k → Sl k ∨ U9.heap.size ≤ k := hS1
        have hdis : ∀ k, S1 k → ¬ Sr k := fun k h1 h2 => by
          rcases hSO k h1 with h | h
          · exact HD.out.2.2 k h h2
          · have := HRR.out k h2; have := HGP.out; omega
        have hoth : TreeAt U11 base r (.pointer ra) Sr := ((HA9.out.tr.fr hf1 (fun k hk h => by exact HD.out.2.2 k h hk)).fr F11 (fun k hk h => by have h : k = g := h; subst h; exact HD.out.2.1 hk))
        have hnew : TreeAt U11 base t1 (.pointer na) S1 := ht1.fr F11 (fun k hk h => by
          have h : k = g := h
          subst h
          rcases hSO _ hk with h | h
          · exact hgS h
          · have := HG.out; have := HGP.out; omega)
        have hg1 : ¬ S1 g := fun h => by
          rcases hSO g h with h | h
          · exact hgS h
          · have := HG.out; have := HGP.out; omega
        have hlen : t1.size = l.size + 1 := by rw [← t1.length_pts, hp1.length_eq, List.length_cons, l.length_pts]
        have hok2 := ok_add (p := p) true HOK.out hok1 p t0 (.inl ⟨HQS.out, rfl, rfl⟩) (by simp [ha]) (by simpa using hp1)
        simp only [if_true, Bool.false_eq_true, if_false] at hok2
        have htree : TreeAt U11 base (PT.node p f t1 r) (.pointer (some ⟨g, 0, none⟩)) (fun k => k = g ∨ S1 k ∨ Sr k) := ⟨g, _, _, S1, Sr, rfl, HG.out.2, by rw [show t1.size + r.size + 1 = n + 1 by have := HNN.out; omega]; exact h11n, hnew, hoth, hg1, HD.out.2.1, fun k h1 h2 => by exact hdis k h1 h2, fun k => Iff.rfl⟩
        have hF : Fr w U11 S := ⟨F11.os.trans (hf1.os.trans HA9.out.fr.os), F11.tape.trans (hf1.tape.trans HA9.out.fr.tape), F11.output.trans (hf1.output.trans HA9.out.fr.output), Nat.le_trans HA9.out.fr.size (Nat.le_trans hf1.size F11.size), fun k hk hnS => by
          have hkg : k ≠ g := fun h => hnS ((HS0.out k).2 (.inl h))
          have h9 := HA9.out.fr.size
          rw [F11.block k (Nat.lt_of_lt_of_le hk (Nat.le_trans h9 hf1.size)) (fun h => hkg h), hf1.block k (Nat.lt_of_lt_of_le hk h9) (fun h => hnS ((HS0.out k).2 (.inr (.inl h))))]
          exact HA9.out.fr.block k hk (fun h => hkg h)⟩
        have hsize : (PT.node p f t1 r).size ≤ 1099511627776 := by
          show t1.size + r.size + 1 ≤ 1099511627776
          have := HNN.out; omega
        have HBA := hide (balanced_any htree hok2.1 (HID.out.perm hok2.2.symm) hsize (by have := hF.size; have := HB.out; have := HGP.out; omega))
        have HFIN : Hid (∀ e W, BalPost U11 base (PT.node p f t1 r).pts (fun k => k = g ∨ S1 k ∨ Sr k) e W → AddPost w base (p :: (PT.node t0 f l r).pts) S e W) := hide (fun e W ⟨t', v', S', h1, h2, h3, h4, h5, h6⟩ => ⟨t', v', S', h1, h2, h3, h4.trans hok2.2, fun k hk => by
          have hU11s := hF.size
          have hU9s := HA9.out.fr.size
          rcases h5 k hk with h | h
          · rcases h with h | h | h
            · exact .inl ((HS0.out k).2 (.inl h))
            · rcases hSO k h with h | h
              · exact .inl ((HS0.out k).2 (.inr (.inl h)))
              · exact .inr (by omega)
            · exact .inl ((HS0.out k).2 (.inr (.inr h)))
          · exact .inr (by omega), (hF.trans h6).mono (fun k _ h => by rcases h with h | h; exact h; exact h.elim)⟩)
        have HU11 := hide hU11
        obtain ⟨c0, c1, c2, c3, c4, c5, c6, c7, c8⟩ := h10n.c
        have zz := h10n.frozen 6
        clear hU11 F11 h11n hSO hdis hoth hnew hg1 hlen hok2 htree hF hsize ht1 hok1 hp1 hS1 hf1 hS hS2 h10n h10b hidc HMEM
        refine wpAnyK_one (i := 6) (by kernel_rfl) rfl rfl ?_
        go_simp
        refine wpAnyK_one (i := 7) (by kernel_rfl) rfl rfl ?_
        go_simp
        rw [← HU11.out]
        refine wpAnyK_done (by kernel_rfl) ?_ _
        clear c0 c1 c2 c3 c4 c5 c6 c7 c8 zz HU11
        go_wp2_with fail
        refine HBA.out.mono ?_
        rintro e U12 hbal
        have hres := HFIN.out _ _ hbal
        obtain ⟨_, v12, _, rfl, _⟩ := id hres
        have HRES := hide hres
        clear hres hbal HBA HFIN
        go_wp2
        go_ret
        exact HRES.out
      ·
        obtain ⟨x1, x2, x3⟩ := HA4.out.bx.pt
        obtain ⟨c0, c1, c2, c3, c4, c5, c6, c7, c8⟩ := HA4.out.no.c
        have z8 := HA4.out.no.frozen 8
        obtain ⟨U7, hU7⟩ : ∃ U7, U7 = U6.setCell ⟨g, 8, none⟩ (.int .i64 ((n : Int) + 1)) := ⟨_, rfl⟩
        have HA7 : Hid (AS w base g gp p f la ra (n + 1) l r Sl Sr t0 U7) := hide (by
          rw [hU7]
          have := HA4.out.no.size (n + 1)
          rw [show (((n + 1 : Nat) : Int)) = (n : Int) + 1 by omega] at this
          exact HA4.out.set (Fr.setCell U6 ⟨g, 8, none⟩ _) this hgp HD.out.1 HD.out.2.1)
        obtain ⟨y1, y2, y3⟩ := HA7.out.bx.pt
        have HSI := hide (HSD.out U7 p t0 (n + 1) HA7.out.no)
        rw [if_neg ha] at HSI
        have HU7 := hide hU7
        clear hU7
        go_wp2_with (rw [← HU7.out])
        refine HSI.out.mono ?_
        rintro e U8 ⟨rfl, f8⟩
        have HA8 := hide (HA7.out.same f8)
        clear f8 HSI HA7 HA4 x1 x2 x3 c0 c1 c2 c3 c4 c5 c6 c7 c8 z8 y1 y2 y3 HU7 HSD
        go_wp2_with fail
        refine wp_region_K (fun z => decide (z < 6)) (fun U : World => PtAt U gp 0 t0 ∧ NodeC U g p f (.pointer la) (.pointer ra) (n + 1)) (by kernel_rfl) ?_
        have HA9 := hide (HA8.out.same (Fr.drew U8 (fun _ => False)))
        clear HA8
        generalize U8.drew = U9 at *
        have hS : (fun U : World => PtAt U gp 0 t0 ∧ NodeC U g p f (.pointer la) (.pointer ra) (n + 1)) U9 := ⟨HA9.out.bx.pt, HA9.out.no.c⟩
        refine wpAnyK_takeTo 0 (some 36) (.pointer (some ⟨g, 7, none⟩)) [6, 7] rfl rfl (by kernel_rfl) (by kernel_rfl) (by kernel_rfl) (by kernel_rfl) (fun _ _ _ h => h) hS (Or.inl ⟨rfl, fun w1 hw1 => by obtain ⟨⟨q1, q2, q3⟩, ⟨c0, c1, c2, c3, c4, c5, c6, c7, c8⟩⟩ := hw1; go_simp⟩) ?_
        simp only [Act.put, List.setIfInBounds_toArray, List.set_cons_zero, List.set_cons_succ]
        refine wpAnyK_takeTo 1 (some 37) (.pointer (some ⟨g, 7, none⟩)) [2, 3, 5, 6, 7] rfl rfl (by kernel_rfl) (by kernel_rfl) (by kernel_rfl) (by kernel_rfl) (fun _ _ _ h => h) hS (Or.inl ⟨rfl, fun w1 hw1 => by obtain ⟨⟨q1, q2, q3⟩, ⟨c0, c1, c2, c3, c4, c5, c6, c7, c8⟩⟩ := hw1; go_simp⟩) ?_
        simp only [Act.put, List.setIfInBounds_toArray, List.set_cons_zero, List.set_cons_succ]
        refine wpAnyK_takeTo 2 (some 38) (.pointer (some ⟨g, 7, none⟩)) [3, 5, 6, 7] rfl rfl (by kernel_rfl) (by kernel_rfl) (by kernel_rfl) (by kernel_rfl) (fun _ _ _ h => h) hS (Or.inl ⟨rfl, fun w1 hw1 => by obtain ⟨⟨q1, q2, q3⟩, ⟨c0, c1, c2, c3, c4, c5, c6, c7, c8⟩⟩ := hw1; go_simp⟩) ?_
        simp only [Act.put, List.setIfInBounds_toArray, List.set_cons_zero, List.set_cons_succ]
        refine wpAnyK_takeTo 3 (some 39) (.pointer ra) [5, 6, 7] rfl rfl (by kernel_rfl) (by kernel_rfl) (by kernel_rfl) (by kernel_rfl) (fun _ _ _ h => h) hS (Or.inl ⟨rfl, fun w1 hw1 => by obtain ⟨⟨q1, q2, q3⟩, ⟨c0, c1, c2, c3, c4, c5, c6, c7, c8⟩⟩ := hw1; go_simp⟩) ?_
        simp only [Act.put, List.setIfInBounds_toArray, List.set_cons_zero, List.set_cons_succ]
        refine wpAnyK_takeTo 4 (some 40) (.agg #[.int .i64 t0.x, .int .i64 t0.y, .int .i64 t0.id]) [5, 6, 7] rfl rfl (by kernel_rfl) (by kernel_rfl) (by kernel_rfl) (by kernel_rfl) (fun _ _ _ h => h) hS (Or.inl ⟨rfl, fun w1 hw1 => by obtain ⟨⟨q1, q2, q3⟩, ⟨c0, c1, c2, c3, c4, c5, c6, c7, c8⟩⟩ := hw1; go_simp⟩) ?_
        simp only [Act.put, List.setIfInBounds_toArray, List.set_cons_zero, List.set_cons_succ]
        refine wpAnyK_one (i := 5) (by kernel_rfl) rfl rfl ?_
        have HMEM : Hid (∀ z, z ∈ (PT.node t0 f l r).pts → ¬ (z.id = p.id)) := hide (fun z hz => (List.pairwise_cons.1 HID.out).1 z hz |>.symm)
        have hidc : Ids (t0 :: r.pts) := by
          have h0 : (p :: t0 :: (l.pts ++ r.pts)).Perm (p :: t0 :: (l.pts ++ r.pts)) := List.Perm.refl _
          have h1 : Ids (p :: t0 :: (l.pts ++ r.pts)) := Ids.perm (L := p :: t0 :: (l.pts ++ r.pts)) HID.out h0.symm
          have h2 : Ids (t0 :: (l.pts ++ r.pts)) := (List.pairwise_cons.1 h1).2
          exact List.Pairwise.sublist (List.Sublist.cons_cons t0 (List.sublist_append_right _ _)) h2
        refine wp_call_to (some 41) rfl 19 #[.pointer ra, .agg #[.int .i64 t0.x, .int .i64 t0.y, .int .i64 t0.id]] (by go_simp) (HIR.out U9 base _ Sr HA9.out.tr HOK.out.2.2.2.2 t0 hidc (by have := HNN.out; omega) (by have := HA9.out.fr.size; have := HB.out; have := HGP.out; omega)) ?_
        rintro e U10 ⟨t1, v1, S1, rfl, ht1, hok1, hp1, hS1, hf1⟩
        obtain ⟨na, rfl⟩ := ht1.ptr
        have hsz9 : gp + 1 ≤ U9.heap.size := HA9.out.sz
        have hgS : ¬ Sr g := HD.out.2.1
        have hbS : ¬ Sr gp := fun h => by have := HRR.out _ h; have := HGP.out; omega
        have h10n : NodeAt U10 g p f (.pointer la) (.pointer ra) (n + 1) := HA9.out.no.fr hf1 hgS
        have h10b : BoxAt U10 gp t0 := HA9.out.bx.fr hf1 hbS
        have hS2 : (fun U : World => PtAt U gp 0 t0 ∧ NodeC U g p f (.pointer la) (.pointer ra) (n + 1)) U10 := ⟨h10b.pt, h10n.c⟩
        refine ⟨_, rfl, fun _ => hS2, ?_⟩
        simp only [Act.put, List.setIfInBounds_toArray, List.set_cons_zero, List.set_cons_succ]
        obtain ⟨U11, hU11⟩ : ∃ U11, U11 = U10.setCell ⟨g, 7, none⟩ (.pointer na) := ⟨_, rfl⟩
        have F11 : Fr U10 U11 (fun k => k = g) := by rw [hU11]; exact Fr.setCell U10 ⟨g, 7, none⟩ _
        have h11n : NodeAt U11 g p f (.pointer la) (.pointer na) (n + 1) := by rw [hU11]; exact h10n.right _
        have hSO : ∀ k, S1 k → Sr k ∨ U9.heap.size ≤ k := hS1
        have hdis : ∀ k, S1 k → ¬ Sl k := fun k h1 h2 => by
          rcases hSO k h1 with h | h
          · exact HD.out.2.2 k h2 h
          · have := HLL.out k h2; have := HGP.out; omega
        have hoth : TreeAt U11 base l (.pointer la) Sl := ((HA9.out.tl.fr hf1 (fun k hk h => by exact HD.out.2.2 k hk h)).fr F11 (fun k hk h => by have h : k = g := h; subst h; exact HD.out.1 hk))
        have hnew : TreeAt U11 base t1 (.pointer na) S1 := ht1.fr F11 (fun k hk h => by
          have h : k = g := h
          subst h
          rcases hSO _ hk with h | h
          · exact hgS h
          · have := HG.out; have := HGP.out; omega)
        have hg1 : ¬ S1 g := fun h => by
          rcases hSO g h with h | h
          · exact hgS h
          · have := HG.out; have := HGP.out; omega
        have hlen : t1.size = r.size + 1 := by rw [← t1.length_pts, hp1.length_eq, List.length_cons, r.length_pts]
        have hok2 := ok_add (p := p) false HOK.out hok1 p t0 (.inl ⟨HQS.out, rfl, rfl⟩) (by simp [ha]) (by simpa using hp1)
        simp only [if_true, Bool.false_eq_true, if_false] at hok2
        have htree : TreeAt U11 base (PT.node p f l t1) (.pointer (some ⟨g, 0, none⟩)) (fun k => k = g ∨ Sl k ∨ S1 k) := ⟨g, _, _, Sl, S1, rfl, HG.out.2, by rw [show l.size + t1.size + 1 = n + 1 by have := HNN.out; omega]; exact h11n, hoth, hnew, HD.out.1, hg1, fun k h1 h2 => by exact hdis k h2 h1, fun k => Iff.rfl⟩
        have hF : Fr w U11 S := ⟨F11.os.trans (hf1.os.trans HA9.out.fr.os), F11.tape.trans (hf1.tape.trans HA9.out.fr.tape), F11.output.trans (hf1.output.trans HA9.out.fr.output), Nat.le_trans HA9.out.fr.size (Nat.le_trans hf1.size F11.size), fun k hk hnS => by
          have hkg : k ≠ g := fun h => hnS ((HS0.out k).2 (.inl h))
          have h9 := HA9.out.fr.size
          rw [F11.block k (Nat.lt_of_lt_of_le hk (Nat.le_trans h9 hf1.size)) (fun h => hkg h), hf1.block k (Nat.lt_of_lt_of_le hk h9) (fun h => hnS ((HS0.out k).2 (.inr (.inr h))))]
          exact HA9.out.fr.block k hk (fun h => hkg h)⟩
        have hsize : (PT.node p f l t1).size ≤ 1099511627776 := by
          show l.size + t1.size + 1 ≤ 1099511627776
          have := HNN.out; omega
        have HBA := hide (balanced_any htree hok2.1 (HID.out.perm hok2.2.symm) hsize (by have := hF.size; have := HB.out; have := HGP.out; omega))
        have HFIN : Hid (∀ e W, BalPost U11 base (PT.node p f l t1).pts (fun k => k = g ∨ Sl k ∨ S1 k) e W → AddPost w base (p :: (PT.node t0 f l r).pts) S e W) := hide (fun e W ⟨t', v', S', h1, h2, h3, h4, h5, h6⟩ => ⟨t', v', S', h1, h2, h3, h4.trans hok2.2, fun k hk => by
          have hU11s := hF.size
          have hU9s := HA9.out.fr.size
          rcases h5 k hk with h | h
          · rcases h with h | h | h
            · exact .inl ((HS0.out k).2 (.inl h))
            · exact .inl ((HS0.out k).2 (.inr (.inl h)))
            · rcases hSO k h with h | h
              · exact .inl ((HS0.out k).2 (.inr (.inr h)))
              · exact .inr (by omega)
          · exact .inr (by omega), (hF.trans h6).mono (fun k _ h => by rcases h with h | h; exact h; exact h.elim)⟩)
        have HU11 := hide hU11
        obtain ⟨c0, c1, c2, c3, c4, c5, c6, c7, c8⟩ := h10n.c
        have zz := h10n.frozen 7
        clear hU11 F11 h11n hSO hdis hoth hnew hg1 hlen hok2 htree hF hsize ht1 hok1 hp1 hS1 hf1 hS hS2 h10n h10b hidc HMEM
        refine wpAnyK_one (i := 6) (by kernel_rfl) rfl rfl ?_
        go_simp
        refine wpAnyK_one (i := 7) (by kernel_rfl) rfl rfl ?_
        go_simp
        rw [← HU11.out]
        refine wpAnyK_done (by kernel_rfl) ?_ _
        clear c0 c1 c2 c3 c4 c5 c6 c7 c8 zz HU11
        go_wp2_with fail
        refine HBA.out.mono ?_
        rintro e U12 hbal
        have hres := HFIN.out _ _ hbal
        obtain ⟨_, v12, _, rfl, _⟩ := id hres
        have HRES := hide hres
        clear hres hbal HBA HFIN
        go_wp2
        go_ret
        exact HRES.out
    | false =>
      have HQS : Hid (¬ aboveP p t0) := hide (of_decide_eq_false hab)
      clear hab
      have HA4 := HA2
      clear HA2
      generalize U2 = U6 at *
      by_cases ha : aheadP p f
      ·
        obtain ⟨x1, x2, x3⟩ := HA4.out.bx.pt
        obtain ⟨c0, c1, c2, c3, c4, c5, c6, c7, c8⟩ := HA4.out.no.c
        have z8 := HA4.out.no.frozen 8
        obtain ⟨U7, hU7⟩ : ∃ U7, U7 = U6.setCell ⟨g, 8, none⟩ (.int .i64 ((n : Int) + 1)) := ⟨_, rfl⟩
        have HA7 : Hid (AS w base g gp t0 f la ra (n + 1) l r Sl Sr p U7) := hide (by
          rw [hU7]
          have := HA4.out.no.size (n + 1)
          rw [show (((n + 1 : Nat) : Int)) = (n : Int) + 1 by omega] at this
          exact HA4.out.set (Fr.setCell U6 ⟨g, 8, none⟩ _) this hgp HD.out.1 HD.out.2.1)
        obtain ⟨y1, y2, y3⟩ := HA7.out.bx.pt
        have HSI := hide (HSD.out U7 t0 p (n + 1) HA7.out.no)
        rw [if_pos ha] at HSI
        have HU7 := hide hU7
        clear hU7
        go_wp2_with (rw [← HU7.out])
        refine HSI.out.mono ?_
        rintro e U8 ⟨rfl, f8⟩
        have HA8 := hide (HA7.out.same f8)
        clear f8 HSI HA7 HA4 x1 x2 x3 c0 c1 c2 c3 c4 c5 c6 c7 c8 z8 y1 y2 y3 HU7 HSD
        go_wp2_with fail
        refine wp_region_K (fun z => decide (z < 6)) (fun U : World => PtAt U gp 0 p ∧ NodeC U g t0 f (.pointer la) (.pointer ra) (n + 1)) (by kernel_rfl) ?_
        have HA9 := hide (HA8.out.same (Fr.drew U8 (fun _ => False)))
        clear HA8
        generalize U8.drew = U9 at *
        have hS : (fun U : World => PtAt U gp 0 p ∧ NodeC U g t0 f (.pointer la) (.pointer ra) (n + 1)) U9 := ⟨HA9.out.bx.pt, HA9.out.no.c⟩
        refine wpAnyK_takeTo 0 (some 36) (.pointer (some ⟨g, 6, none⟩)) [6, 7] rfl rfl (by kernel_rfl) (by kernel_rfl) (by kernel_rfl) (by kernel_rfl) (fun _ _ _ h => h) hS (Or.inl ⟨rfl, fun w1 hw1 => by obtain ⟨⟨q1, q2, q3⟩, ⟨c0, c1, c2, c3, c4, c5, c6, c7, c8⟩⟩ := hw1; go_simp⟩) ?_
        simp only [Act.put, List.setIfInBounds_toArray, List.set_cons_zero, List.set_cons_succ]
        refine wpAnyK_takeTo 1 (some 37) (.pointer (some ⟨g, 6, none⟩)) [2, 3, 5, 6, 7] rfl rfl (by kernel_rfl) (by kernel_rfl) (by kernel_rfl) (by kernel_rfl) (fun _ _ _ h => h) hS (Or.inl ⟨rfl, fun w1 hw1 => by obtain ⟨⟨q1, q2, q3⟩, ⟨c0, c1, c2, c3, c4, c5, c6, c7, c8⟩⟩ := hw1; go_simp⟩) ?_
        simp only [Act.put, List.setIfInBounds_toArray, List.set_cons_zero, List.set_cons_succ]
        refine wpAnyK_takeTo 2 (some 38) (.pointer (some ⟨g, 6, none⟩)) [3, 5, 6, 7] rfl rfl (by kernel_rfl) (by kernel_rfl) (by kernel_rfl) (by kernel_rfl) (fun _ _ _ h => h) hS (Or.inl ⟨rfl, fun w1 hw1 => by obtain ⟨⟨q1, q2, q3⟩, ⟨c0, c1, c2, c3, c4, c5, c6, c7, c8⟩⟩ := hw1; go_simp⟩) ?_
        simp only [Act.put, List.setIfInBounds_toArray, List.set_cons_zero, List.set_cons_succ]
        refine wpAnyK_takeTo 3 (some 39) (.pointer la) [5, 6, 7] rfl rfl (by kernel_rfl) (by kernel_rfl) (by kernel_rfl) (by kernel_rfl) (fun _ _ _ h => h) hS (Or.inl ⟨rfl, fun w1 hw1 => by obtain ⟨⟨q1, q2, q3⟩, ⟨c0, c1, c2, c3, c4, c5, c6, c7, c8⟩⟩ := hw1; go_simp⟩) ?_
        simp only [Act.put, List.setIfInBounds_toArray, List.set_cons_zero, List.set_cons_succ]
        refine wpAnyK_takeTo 4 (some 40) (.agg #[.int .i64 p.x, .int .i64 p.y, .int .i64 p.id]) [5, 6, 7] rfl rfl (by kernel_rfl) (by kernel_rfl) (by kernel_rfl) (by kernel_rfl) (fun _ _ _ h => h) hS (Or.inl ⟨rfl, fun w1 hw1 => by obtain ⟨⟨q1, q2, q3⟩, ⟨c0, c1, c2, c3, c4, c5, c6, c7, c8⟩⟩ := hw1; go_simp⟩) ?_
        simp only [Act.put, List.setIfInBounds_toArray, List.set_cons_zero, List.set_cons_succ]
        refine wpAnyK_one (i := 5) (by kernel_rfl) rfl rfl ?_
        have HMEM : Hid (∀ z, z ∈ (PT.node t0 f l r).pts → ¬ (z.id = p.id)) := hide (fun z hz => (List.pairwise_cons.1 HID.out).1 z hz |>.symm)
        have hidc : Ids (p :: l.pts) := by
          have h0 : (t0 :: p :: (l.pts ++ r.pts)).Perm (p :: t0 :: (l.pts ++ r.pts)) := List.Perm.swap _ _ _
          have h1 : Ids (t0 :: p :: (l.pts ++ r.pts)) := Ids.perm (L := p :: t0 :: (l.pts ++ r.pts)) HID.out h0.symm
          have h2 : Ids (p :: (l.pts ++ r.pts)) := (List.pairwise_cons.1 h1).2
          exact List.Pairwise.sublist (List.Sublist.cons_cons p (List.sublist_append_left _ _)) h2
        refine wp_call_to (some 41) rfl 19 #[.pointer la, .agg #[.int .i64 p.x, .int .i64 p.y, .int .i64 p.id]] (by go_simp) (HIL.out U9 base _ Sl HA9.out.tl HOK.out.2.2.2.1 p hidc (by have := HNN.out; omega) (by have := HA9.out.fr.size; have := HB.out; have := HGP.out; omega)) ?_
        rintro e U10 ⟨t1, v1, S1, rfl, ht1, hok1, hp1, hS1, hf1⟩
        obtain ⟨na, rfl⟩ := ht1.ptr
        have hsz9 : gp + 1 ≤ U9.heap.size := HA9.out.sz
        have hgS : ¬ Sl g := HD.out.1
        have hbS : ¬ Sl gp := fun h => by have := HLL.out _ h; have := HGP.out; omega
        have h10n : NodeAt U10 g t0 f (.pointer la) (.pointer ra) (n + 1) := HA9.out.no.fr hf1 hgS
        have h10b : BoxAt U10 gp p := HA9.out.bx.fr hf1 hbS
        have hS2 : (fun U : World => PtAt U gp 0 p ∧ NodeC U g t0 f (.pointer la) (.pointer ra) (n + 1)) U10 := ⟨h10b.pt, h10n.c⟩
        refine ⟨_, rfl, fun _ => hS2, ?_⟩
        simp only [Act.put, List.setIfInBounds_toArray, List.set_cons_zero, List.set_cons_succ]
        obtain ⟨U11, hU11⟩ : ∃ U11, U11 = U10.setCell ⟨g, 6, none⟩ (.pointer na) := ⟨_, rfl⟩
        have F11 : Fr U10 U11 (fun k => k = g) := by rw [hU11]; exact Fr.setCell U10 ⟨g, 6, none⟩ _
        have h11n : NodeAt U11 g t0 f (.pointer na) (.pointer ra) (n + 1) := by rw [hU11]; exact h10n.left _
        have hSO : ∀ k, S1 k → Sl k ∨ U9.heap.size ≤ k := hS1
        have hdis : ∀ k, S1 k → ¬ Sr k := fun k h1 h2 => by
          rcases hSO k h1 with h | h
          · exact HD.out.2.2 k h h2
          · have := HRR.out k h2; have := HGP.out; omega
        have hoth : TreeAt U11 base r (.pointer ra) Sr := ((HA9.out.tr.fr hf1 (fun k hk h => by exact HD.out.2.2 k h hk)).fr F11 (fun k hk h => by have h : k = g := h; subst h; exact HD.out.2.1 hk))
        have hnew : TreeAt U11 base t1 (.pointer na) S1 := ht1.fr F11 (fun k hk h => by
          have h : k = g := h
          subst h
          rcases hSO _ hk with h | h
          · exact hgS h
          · have := HG.out; have := HGP.out; omega)
        have hg1 : ¬ S1 g := fun h => by
          rcases hSO g h with h | h
          · exact hgS h
          · have := HG.out; have := HGP.out; omega
        have hlen : t1.size = l.size + 1 := by rw [← t1.length_pts, hp1.length_eq, List.length_cons, l.length_pts]
        have hok2 := ok_add (p := p) true HOK.out hok1 t0 p (.inr ⟨HQS.out, rfl, rfl⟩) (by simp [ha]) (by simpa using hp1)
        simp only [if_true, Bool.false_eq_true, if_false] at hok2
        have htree : TreeAt U11 base (PT.node t0 f t1 r) (.pointer (some ⟨g, 0, none⟩)) (fun k => k = g ∨ S1 k ∨ Sr k) := ⟨g, _, _, S1, Sr, rfl, HG.out.2, by rw [show t1.size + r.size + 1 = n + 1 by have := HNN.out; omega]; exact h11n, hnew, hoth, hg1, HD.out.2.1, fun k h1 h2 => by exact hdis k h1 h2, fun k => Iff.rfl⟩
        have hF : Fr w U11 S := ⟨F11.os.trans (hf1.os.trans HA9.out.fr.os), F11.tape.trans (hf1.tape.trans HA9.out.fr.tape), F11.output.trans (hf1.output.trans HA9.out.fr.output), Nat.le_trans HA9.out.fr.size (Nat.le_trans hf1.size F11.size), fun k hk hnS => by
          have hkg : k ≠ g := fun h => hnS ((HS0.out k).2 (.inl h))
          have h9 := HA9.out.fr.size
          rw [F11.block k (Nat.lt_of_lt_of_le hk (Nat.le_trans h9 hf1.size)) (fun h => hkg h), hf1.block k (Nat.lt_of_lt_of_le hk h9) (fun h => hnS ((HS0.out k).2 (.inr (.inl h))))]
          exact HA9.out.fr.block k hk (fun h => hkg h)⟩
        have hsize : (PT.node t0 f t1 r).size ≤ 1099511627776 := by
          show t1.size + r.size + 1 ≤ 1099511627776
          have := HNN.out; omega
        have HBA := hide (balanced_any htree hok2.1 (HID.out.perm hok2.2.symm) hsize (by have := hF.size; have := HB.out; have := HGP.out; omega))
        have HFIN : Hid (∀ e W, BalPost U11 base (PT.node t0 f t1 r).pts (fun k => k = g ∨ S1 k ∨ Sr k) e W → AddPost w base (p :: (PT.node t0 f l r).pts) S e W) := hide (fun e W ⟨t', v', S', h1, h2, h3, h4, h5, h6⟩ => ⟨t', v', S', h1, h2, h3, h4.trans hok2.2, fun k hk => by
          have hU11s := hF.size
          have hU9s := HA9.out.fr.size
          rcases h5 k hk with h | h
          · rcases h with h | h | h
            · exact .inl ((HS0.out k).2 (.inl h))
            · rcases hSO k h with h | h
              · exact .inl ((HS0.out k).2 (.inr (.inl h)))
              · exact .inr (by omega)
            · exact .inl ((HS0.out k).2 (.inr (.inr h)))
          · exact .inr (by omega), (hF.trans h6).mono (fun k _ h => by rcases h with h | h; exact h; exact h.elim)⟩)
        have HU11 := hide hU11
        obtain ⟨c0, c1, c2, c3, c4, c5, c6, c7, c8⟩ := h10n.c
        have zz := h10n.frozen 6
        clear hU11 F11 h11n hSO hdis hoth hnew hg1 hlen hok2 htree hF hsize ht1 hok1 hp1 hS1 hf1 hS hS2 h10n h10b hidc HMEM
        refine wpAnyK_one (i := 6) (by kernel_rfl) rfl rfl ?_
        go_simp
        refine wpAnyK_one (i := 7) (by kernel_rfl) rfl rfl ?_
        go_simp
        rw [← HU11.out]
        refine wpAnyK_done (by kernel_rfl) ?_ _
        clear c0 c1 c2 c3 c4 c5 c6 c7 c8 zz HU11
        go_wp2_with fail
        refine HBA.out.mono ?_
        rintro e U12 hbal
        have hres := HFIN.out _ _ hbal
        obtain ⟨_, v12, _, rfl, _⟩ := id hres
        have HRES := hide hres
        clear hres hbal HBA HFIN
        go_wp2
        go_ret
        exact HRES.out
      ·
        obtain ⟨x1, x2, x3⟩ := HA4.out.bx.pt
        obtain ⟨c0, c1, c2, c3, c4, c5, c6, c7, c8⟩ := HA4.out.no.c
        have z8 := HA4.out.no.frozen 8
        obtain ⟨U7, hU7⟩ : ∃ U7, U7 = U6.setCell ⟨g, 8, none⟩ (.int .i64 ((n : Int) + 1)) := ⟨_, rfl⟩
        have HA7 : Hid (AS w base g gp t0 f la ra (n + 1) l r Sl Sr p U7) := hide (by
          rw [hU7]
          have := HA4.out.no.size (n + 1)
          rw [show (((n + 1 : Nat) : Int)) = (n : Int) + 1 by omega] at this
          exact HA4.out.set (Fr.setCell U6 ⟨g, 8, none⟩ _) this hgp HD.out.1 HD.out.2.1)
        obtain ⟨y1, y2, y3⟩ := HA7.out.bx.pt
        have HSI := hide (HSD.out U7 t0 p (n + 1) HA7.out.no)
        rw [if_neg ha] at HSI
        have HU7 := hide hU7
        clear hU7
        go_wp2_with (rw [← HU7.out])
        refine HSI.out.mono ?_
        rintro e U8 ⟨rfl, f8⟩
        have HA8 := hide (HA7.out.same f8)
        clear f8 HSI HA7 HA4 x1 x2 x3 c0 c1 c2 c3 c4 c5 c6 c7 c8 z8 y1 y2 y3 HU7 HSD
        go_wp2_with fail
        refine wp_region_K (fun z => decide (z < 6)) (fun U : World => PtAt U gp 0 p ∧ NodeC U g t0 f (.pointer la) (.pointer ra) (n + 1)) (by kernel_rfl) ?_
        have HA9 := hide (HA8.out.same (Fr.drew U8 (fun _ => False)))
        clear HA8
        generalize U8.drew = U9 at *
        have hS : (fun U : World => PtAt U gp 0 p ∧ NodeC U g t0 f (.pointer la) (.pointer ra) (n + 1)) U9 := ⟨HA9.out.bx.pt, HA9.out.no.c⟩
        refine wpAnyK_takeTo 0 (some 36) (.pointer (some ⟨g, 7, none⟩)) [6, 7] rfl rfl (by kernel_rfl) (by kernel_rfl) (by kernel_rfl) (by kernel_rfl) (fun _ _ _ h => h) hS (Or.inl ⟨rfl, fun w1 hw1 => by obtain ⟨⟨q1, q2, q3⟩, ⟨c0, c1, c2, c3, c4, c5, c6, c7, c8⟩⟩ := hw1; go_simp⟩) ?_
        simp only [Act.put, List.setIfInBounds_toArray, List.set_cons_zero, List.set_cons_succ]
        refine wpAnyK_takeTo 1 (some 37) (.pointer (some ⟨g, 7, none⟩)) [2, 3, 5, 6, 7] rfl rfl (by kernel_rfl) (by kernel_rfl) (by kernel_rfl) (by kernel_rfl) (fun _ _ _ h => h) hS (Or.inl ⟨rfl, fun w1 hw1 => by obtain ⟨⟨q1, q2, q3⟩, ⟨c0, c1, c2, c3, c4, c5, c6, c7, c8⟩⟩ := hw1; go_simp⟩) ?_
        simp only [Act.put, List.setIfInBounds_toArray, List.set_cons_zero, List.set_cons_succ]
        refine wpAnyK_takeTo 2 (some 38) (.pointer (some ⟨g, 7, none⟩)) [3, 5, 6, 7] rfl rfl (by kernel_rfl) (by kernel_rfl) (by kernel_rfl) (by kernel_rfl) (fun _ _ _ h => h) hS (Or.inl ⟨rfl, fun w1 hw1 => by obtain ⟨⟨q1, q2, q3⟩, ⟨c0, c1, c2, c3, c4, c5, c6, c7, c8⟩⟩ := hw1; go_simp⟩) ?_
        simp only [Act.put, List.setIfInBounds_toArray, List.set_cons_zero, List.set_cons_succ]
        refine wpAnyK_takeTo 3 (some 39) (.pointer ra) [5, 6, 7] rfl rfl (by kernel_rfl) (by kernel_rfl) (by kernel_rfl) (by kernel_rfl) (fun _ _ _ h => h) hS (Or.inl ⟨rfl, fun w1 hw1 => by obtain ⟨⟨q1, q2, q3⟩, ⟨c0, c1, c2, c3, c4, c5, c6, c7, c8⟩⟩ := hw1; go_simp⟩) ?_
        simp only [Act.put, List.setIfInBounds_toArray, List.set_cons_zero, List.set_cons_succ]
        refine wpAnyK_takeTo 4 (some 40) (.agg #[.int .i64 p.x, .int .i64 p.y, .int .i64 p.id]) [5, 6, 7] rfl rfl (by kernel_rfl) (by kernel_rfl) (by kernel_rfl) (by kernel_rfl) (fun _ _ _ h => h) hS (Or.inl ⟨rfl, fun w1 hw1 => by obtain ⟨⟨q1, q2, q3⟩, ⟨c0, c1, c2, c3, c4, c5, c6, c7, c8⟩⟩ := hw1; go_simp⟩) ?_
        simp only [Act.put, List.setIfInBounds_toArray, List.set_cons_zero, List.set_cons_succ]
        refine wpAnyK_one (i := 5) (by kernel_rfl) rfl rfl ?_
        have HMEM : Hid (∀ z, z ∈ (PT.node t0 f l r).pts → ¬ (z.id = p.id)) := hide (fun z hz => (List.pairwise_cons.1 HID.out).1 z hz |>.symm)
        have hidc : Ids (p :: r.pts) := by
          have h0 : (t0 :: p :: (l.pts ++ r.pts)).Perm (p :: t0 :: (l.pts ++ r.pts)) := List.Perm.swap _ _ _
          have h1 : Ids (t0 :: p :: (l.pts ++ r.pts)) := Ids.perm (L := p :: t0 :: (l.pts ++ r.pts)) HID.out h0.symm
          have h2 : Ids (p :: (l.pts ++ r.pts)) := (List.pairwise_cons.1 h1).2
          exact List.Pairwise.sublist (List.Sublist.cons_cons p (List.sublist_append_right _ _)) h2
        refine wp_call_to (some 41) rfl 19 #[.pointer ra, .agg #[.int .i64 p.x, .int .i64 p.y, .int .i64 p.id]] (by go_simp) (HIR.out U9 base _ Sr HA9.out.tr HOK.out.2.2.2.2 p hidc (by have := HNN.out; omega) (by have := HA9.out.fr.size; have := HB.out; have := HGP.out; omega)) ?_
        rintro e U10 ⟨t1, v1, S1, rfl, ht1, hok1, hp1, hS1, hf1⟩
        obtain ⟨na, rfl⟩ := ht1.ptr
        have hsz9 : gp + 1 ≤ U9.heap.size := HA9.out.sz
        have hgS : ¬ Sr g := HD.out.2.1
        have hbS : ¬ Sr gp := fun h => by have := HRR.out _ h; have := HGP.out; omega
        have h10n : NodeAt U10 g t0 f (.pointer la) (.pointer ra) (n + 1) := HA9.out.no.fr hf1 hgS
        have h10b : BoxAt U10 gp p := HA9.out.bx.fr hf1 hbS
        have hS2 : (fun U : World => PtAt U gp 0 p ∧ NodeC U g t0 f (.pointer la) (.pointer ra) (n + 1)) U10 := ⟨h10b.pt, h10n.c⟩
        refine ⟨_, rfl, fun _ => hS2, ?_⟩
        simp only [Act.put, List.setIfInBounds_toArray, List.set_cons_zero, List.set_cons_succ]
        obtain ⟨U11, hU11⟩ : ∃ U11, U11 = U10.setCell ⟨g, 7, none⟩ (.pointer na) := ⟨_, rfl⟩
        have F11 : Fr U10 U11 (fun k => k = g) := by rw [hU11]; exact Fr.setCell U10 ⟨g, 7, none⟩ _
        have h11n : NodeAt U11 g t0 f (.pointer la) (.pointer na) (n + 1) := by rw [hU11]; exact h10n.right _
        have hSO : ∀ k, S1 k → Sr k ∨ U9.heap.size ≤ k := hS1
        have hdis : ∀ k, S1 k → ¬ Sl k := fun k h1 h2 => by
          rcases hSO k h1 with h | h
          · exact HD.out.2.2 k h2 h
          · have := HLL.out k h2; have := HGP.out; omega
        have hoth : TreeAt U11 base l (.pointer la) Sl := ((HA9.out.tl.fr hf1 (fun k hk h => by exact HD.out.2.2 k hk h)).fr F11 (fun k hk h => by have h : k = g := h; subst h; exact HD.out.1 hk))
        have hnew : TreeAt U11 base t1 (.pointer na) S1 := ht1.fr F11 (fun k hk h => by
          have h : k = g := h
          subst h
          rcases hSO _ hk with h | h
          · exact hgS h
          · have := HG.out; have := HGP.out; omega)
        have hg1 : ¬ S1 g := fun h => by
          rcases hSO g h with h | h
          · exact hgS h
          · have := HG.out; have := HGP.out; omega
        have hlen : t1.size = r.size + 1 := by rw [← t1.length_pts, hp1.length_eq, List.length_cons, r.length_pts]
        have hok2 := ok_add (p := p) false HOK.out hok1 t0 p (.inr ⟨HQS.out, rfl, rfl⟩) (by simp [ha]) (by simpa using hp1)
        simp only [if_true, Bool.false_eq_true, if_false] at hok2
        have htree : TreeAt U11 base (PT.node t0 f l t1) (.pointer (some ⟨g, 0, none⟩)) (fun k => k = g ∨ Sl k ∨ S1 k) := ⟨g, _, _, Sl, S1, rfl, HG.out.2, by rw [show l.size + t1.size + 1 = n + 1 by have := HNN.out; omega]; exact h11n, hoth, hnew, HD.out.1, hg1, fun k h1 h2 => by exact hdis k h2 h1, fun k => Iff.rfl⟩
        have hF : Fr w U11 S := ⟨F11.os.trans (hf1.os.trans HA9.out.fr.os), F11.tape.trans (hf1.tape.trans HA9.out.fr.tape), F11.output.trans (hf1.output.trans HA9.out.fr.output), Nat.le_trans HA9.out.fr.size (Nat.le_trans hf1.size F11.size), fun k hk hnS => by
          have hkg : k ≠ g := fun h => hnS ((HS0.out k).2 (.inl h))
          have h9 := HA9.out.fr.size
          rw [F11.block k (Nat.lt_of_lt_of_le hk (Nat.le_trans h9 hf1.size)) (fun h => hkg h), hf1.block k (Nat.lt_of_lt_of_le hk h9) (fun h => hnS ((HS0.out k).2 (.inr (.inr h))))]
          exact HA9.out.fr.block k hk (fun h => hkg h)⟩
        have hsize : (PT.node t0 f l t1).size ≤ 1099511627776 := by
          show l.size + t1.size + 1 ≤ 1099511627776
          have := HNN.out; omega
        have HBA := hide (balanced_any htree hok2.1 (HID.out.perm hok2.2.symm) hsize (by have := hF.size; have := HB.out; have := HGP.out; omega))
        have HFIN : Hid (∀ e W, BalPost U11 base (PT.node t0 f l t1).pts (fun k => k = g ∨ Sl k ∨ S1 k) e W → AddPost w base (p :: (PT.node t0 f l r).pts) S e W) := hide (fun e W ⟨t', v', S', h1, h2, h3, h4, h5, h6⟩ => ⟨t', v', S', h1, h2, h3, h4.trans hok2.2, fun k hk => by
          have hU11s := hF.size
          have hU9s := HA9.out.fr.size
          rcases h5 k hk with h | h
          · rcases h with h | h | h
            · exact .inl ((HS0.out k).2 (.inl h))
            · exact .inl ((HS0.out k).2 (.inr (.inl h)))
            · rcases hSO k h with h | h
              · exact .inl ((HS0.out k).2 (.inr (.inr h)))
              · exact .inr (by omega)
          · exact .inr (by omega), (hF.trans h6).mono (fun k _ h => by rcases h with h | h; exact h; exact h.elim)⟩)
        have HU11 := hide hU11
        obtain ⟨c0, c1, c2, c3, c4, c5, c6, c7, c8⟩ := h10n.c
        have zz := h10n.frozen 7
        clear hU11 F11 h11n hSO hdis hoth hnew hg1 hlen hok2 htree hF hsize ht1 hok1 hp1 hS1 hf1 hS hS2 h10n h10b hidc HMEM
        refine wpAnyK_one (i := 6) (by kernel_rfl) rfl rfl ?_
        go_simp
        refine wpAnyK_one (i := 7) (by kernel_rfl) rfl rfl ?_
        go_simp
        rw [← HU11.out]
        refine wpAnyK_done (by kernel_rfl) ?_ _
        clear c0 c1 c2 c3 c4 c5 c6 c7 c8 zz HU11
        go_wp2_with fail
        refine HBA.out.mono ?_
        rintro e U12 hbal
        have hres := HFIN.out _ _ hbal
        obtain ⟨_, v12, _, rfl, _⟩ := id hres
        have HRES := hide hres
        clear hres hbal HBA HFIN
        go_wp2
        go_ret
        exact HRES.out
end Go.Proofs.YtigkinakhijfoaaGreat.Ps
