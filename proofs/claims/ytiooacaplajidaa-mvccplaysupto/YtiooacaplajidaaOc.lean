/- The document's Begin. -/
import Derived.Test.YtiooacaplajidaaOb
namespace Go.Proofs.Ytiooacaplajidaa
open Go.RowKit Go.Maps
set_option maxRecDepth 100000
set_option linter.unusedVariables false
set_option linter.unusedSimpArgs false

theorem full49 : ∃ i, Try.prog.info? 49 = some i ∧ i.zero = some (.agg #[.int .i64 0, .int .i64 0, .slice none 0 0]) ∧ i.size = 3 ∧ i.bytes = 40 := by
  have h0 : (Try.prog.info? 49).isSome = true := by kernel_rfl
  have h1 : (Try.prog.info? 49).bind (·.zero) = some (.agg #[.int .i64 0, .int .i64 0, .slice none 0 0]) := by kernel_rfl
  have h2 : (Try.prog.info? 49).map (·.size) = some 3 := by kernel_rfl
  have h3 : (Try.prog.info? 49).map (·.bytes) = some 40 := by kernel_rfl
  obtain ⟨i, hi⟩ := Option.isSome_iff_exists.1 h0
  rw [hi] at h1 h2 h3
  exact ⟨i, hi, h1, Option.some.inj h2, Option.some.inj h3⟩
theorem full89 : ∃ i, Try.prog.info? 89 = some i ∧ i.zero = some (.agg #[.int .i64 0, .int .i64 0, .slice none 0 0]) ∧ i.size = 3 ∧ i.bytes = 40 := by
  have h0 : (Try.prog.info? 89).isSome = true := by kernel_rfl
  have h1 : (Try.prog.info? 89).bind (·.zero) = some (.agg #[.int .i64 0, .int .i64 0, .slice none 0 0]) := by kernel_rfl
  have h2 : (Try.prog.info? 89).map (·.size) = some 3 := by kernel_rfl
  have h3 : (Try.prog.info? 89).map (·.bytes) = some 40 := by kernel_rfl
  obtain ⟨i, hi⟩ := Option.isSome_iff_exists.1 h0
  rw [hi] at h1 h2 h3
  exact ⟨i, hi, h1, Option.some.inj h2, Option.some.inj h3⟩
/-- The two types of rows. -/
structure Ty (t e : TypeId) : Prop where
  ht : Try.prog.underlying t = some (.slice e)
  hf : ∃ i, Try.prog.info? e = some i ∧ i.zero = some (.agg #[.int .i64 0, .int .i64 0, .slice none 0 0]) ∧ i.size = 3 ∧ i.bytes = 40
theorem ty26 : Ty 26 49 := ⟨Try.underlying26, full49⟩
theorem ty27 : Ty 27 89 := ⟨Try.underlying27, full89⟩
theorem encW_one (L : List Rw) : ∀ u ∈ encW L, u.oneCell' = true := by
  intro u hu
  unfold encW at hu
  obtain ⟨l, hl, hu⟩ := List.mem_flatten.1 hu
  obtain ⟨x, _, rfl⟩ := List.mem_map.1 hl
  simp [Rw.cells] at hu
  rcases hu with rfl | rfl | rfl <;> rfl
/-- A row made by the call, beside what was there. -/
def GW (w : World) (e : TypeId) (W : World) (v : Value) (L : List Rw) : Prop := W.ownsRow 0 e 3 v L.length (encW L) ∧ Fr w W (fun _ => False) ∧ ∀ k, v.ownBlock = some k → w.heap.size ≤ k
section
variable {t e : TypeId} {w W W' : World} {v u : Value} {L M : List Rw}
theorem GW.fr {Z : Nat → Prop} (h : GW w e W v L) (hf : Fr W W' Z) (hz : ∀ k, Z k → w.heap.size ≤ k) (hv : ∀ k, v.ownBlock = some k → ¬ Z k) : GW w e W' v L :=
  ⟨ownsRow_fr h.1 hf hv, (h.2.1.trans hf).mono (fun k hk h => by rcases h with h | h; exact h; (have := hz k h; omega)), h.2.2⟩
theorem empty_row (w : World) (e : TypeId) : GW w e (w.alloc (.cells #[] e)) (.slice (some ⟨w.heap.size, 0, none⟩) 0 0) [] :=
  ⟨⟨rfl, .inr ⟨w.heap.size, 0, #[], rfl, Nat.zero_le _, heap_alloc_new w _, Nat.le_refl _, Nat.zero_le _, rfl, rfl⟩⟩, Fr.alloc w _ _, fun k hk => by cases hk; exact Nat.le_refl _⟩
/-- append of cells that lie somewhere. -/
theorem GW.cat (ty : Ty t e) (h : GW w e W v L) (r : TypeId) (a : Addr) (c : Nat) (hc : ∀ j u, (encW M)[j]? = some u → W.cell? (a.add j) = some u) (hn : L.length + M.length ≤ 2199023255552) :
    ∃ v' W', (Builtin.append_ #[t, t] r #[v, .slice (some a) M.length c]).run Try.prog W = .ok v' W' ∧ GW w e W' v' (L ++ M) := by
  obtain ⟨v', W', hr, q1, q2, q3⟩ := app_row (base := 0) ty.ht ty.hf rfl (by omega) (by omega) h.1 (Nat.zero_le _) r a M.length c (encW M) (length_encW M) hc (encW_one M) hn
  refine ⟨v', W', hr, ?_, (h.2.1.trans q2).mono (fun k hk hh => by rcases hh with hh | hh; exact hh; (have := h.2.2 k hh; omega)), fun k hk => ?_⟩
  · rw [List.length_append, encW_append]; exact q1
  · rcases q3 with q3 | q3
    · exact h.2.2 k (q3 ▸ hk)
    · rw [q3] at hk; cases hk; exact h.2.1.size
theorem GW.nil (ty : Ty t e) (h : GW w e W v L) (r : TypeId) : (Builtin.append_ #[t, t] r #[v, .slice none 0 0]).run Try.prog W = .ok v W := by
  obtain ⟨i, hi, _⟩ := ty.hf
  exact run_append_owned_none (P := Try.prog) W 0 t r e i 3 ty.ht hi v L.length (encW L) h.1
/-- append of a row. -/
theorem GW.row (ty : Ty t e) (h : GW w e W v L) (r : TypeId) (hu : W.ownsRow 0 e 3 u M.length (encW M)) (hn : L.length + M.length ≤ 2199023255552) :
    ∃ v' W', (Builtin.append_ #[t, t] r #[v, u]).run Try.prog W = .ok v' W' ∧ GW w e W' v' (L ++ M) := by
  have hu2 := hu
  rcases hu.2 with ⟨rfl, h0⟩ | ⟨g, cap, cur, rfl, _⟩
  · have : M = [] := List.eq_nil_of_length_eq_zero h0
    subst this
    exact ⟨v, W, h.nil ty r, by rw [List.append_nil]; exact h⟩
  · refine h.cat ty r ⟨g, 0, none⟩ cap (fun j u hj => ?_) hn
    obtain ⟨g', hg', hc⟩ := row_cell hu2 hj
    cases hg'
    rw [Addr.add_mid, Nat.zero_add]
    exact hc
/-- append of one. -/
theorem GW.push (ty : Ty t e) (h : GW w e W v L) (r : TypeId) (x : Rw) (hn : L.length + 1 ≤ 2199023255552) :
    ∃ v' W', (Builtin.append_ #[t, t] r #[v, .slice (some ⟨W.heap.size, 0, none⟩) 1 1]).run Try.prog (W.alloc (.cells #[.int .i64 x.id, .int .i64 x.st, .slice x.ka x.kn x.kc] e)) = .ok v' W' ∧ GW w e W' v' (L ++ [x]) := by
  have F := Fr.alloc W (.cells #[.int .i64 x.id, .int .i64 x.st, .slice x.ka x.kn x.kc] e) (fun _ => False)
  have b := heap_alloc_new W (.cells #[.int .i64 x.id, .int .i64 x.st, .slice x.ka x.kn x.kc] e)
  refine (h.fr F (fun k h => h.elim) (fun _ _ h => h)).cat (M := [x]) ty r ⟨W.heap.size, 0, none⟩ 1 (fun j u hj => ?_) hn
  rw [Addr.add_mid, Nat.zero_add]
  match j, hj with
  | 0, hj => cases hj; exact (cell_of_row _ _ _ _ _ _ b).trans rfl
  | 1, hj => cases hj; exact (cell_of_row _ _ _ _ _ _ b).trans rfl
  | 2, hj => cases hj; exact (cell_of_row _ _ _ _ _ _ b).trans rfl
theorem GW.shape (h : GW w e W v L) : ∃ a c, v = .slice a L.length c := shape_n h.1
end
theorem BoxM.begun' {w : World} {g : Nat} {m : Dm} (h : BoxM w g m) (x : Int) : BoxM (w.setCell ⟨g, 2, none⟩ (.int .i64 x)) g { m with begun := x } := by
  unfold BoxM at h ⊢
  rw [heap_setCell_here w g 2 (.int .i64 x) _ 29 (0, 0) h]
  rfl
theorem BoxM.last' {w : World} {g : Nat} {m : Dm} (h : BoxM w g m) (x : Int) : BoxM (w.setCell ⟨g, 1, none⟩ (.int .i64 x)) g { m with last := x } := by
  unfold BoxM at h ⊢
  rw [heap_setCell_here w g 1 (.int .i64 x) _ 29 (0, 0) h]
  rfl
theorem BoxM.act' {w : World} {g : Nat} {m : Dm} (h : BoxM w g m) (a : Option Addr) (c : Nat) (L : List Rw) : BoxM (w.setCell ⟨g, 3, none⟩ (.slice a L.length c)) g { m with aa := a, ac := c, A := L } := by
  unfold BoxM at h ⊢
  rw [heap_setCell_here w g 3 _ _ 29 (0, 0) h]
  rfl
theorem BoxM.his' {w : World} {g : Nat} {m : Dm} (h : BoxM w g m) (a : Option Addr) (c : Nat) (L : List Rw) : BoxM (w.setCell ⟨g, 4, none⟩ (.slice a L.length c)) g { m with ha := a, hc := c, H := L } := by
  unfold BoxM at h ⊢
  rw [heap_setCell_here w g 4 _ _ 29 (0, 0) h]
  rfl
/-- The box's cells, and that they may be written. -/
theorem BoxM.all {w : World} {g : Nat} {m : Dm} (h : BoxM w g m) : (w.cell? ⟨g, 0, none⟩ = some (.int .i64 m.now) ∧ w.cell? ⟨g, 1, none⟩ = some (.int .i64 m.last) ∧ w.cell? ⟨g, 2, none⟩ = some (.int .i64 m.begun) ∧ w.cell? ⟨g, 3, none⟩ = some (.slice m.aa m.A.length m.ac) ∧ w.cell? ⟨g, 4, none⟩ = some (.slice m.ha m.H.length m.hc)) ∧ w.frozen? ⟨g, 0, none⟩ = false ∧ w.frozen? ⟨g, 1, none⟩ = false ∧ w.frozen? ⟨g, 2, none⟩ = false ∧ w.frozen? ⟨g, 3, none⟩ = false ∧ w.frozen? ⟨g, 4, none⟩ = false := ⟨h.cells, h.frozen 0, h.frozen 1, h.frozen 2, h.frozen 3, h.frozen 4⟩
/-- The one that begins. -/
def newR (m : Dm) : Rw := ⟨m.begun + 1, m.last, none, 0, 0, []⟩
set_option maxHeartbeats 8000000 in
theorem begin_ref {Q : Nat → Prop} {w : World} {m : Dm} (h : DM Q w m) (hQ : ∀ k, w.heap.size ≤ k → Q k) (hnb : m.A.length ≤ 1048576) (hb0 : 0 ≤ m.begun) (hb1 : m.begun ≤ 9000000000000000000) : Calls Try.prog 22 #[m.agg] w fun e w' => ∃ a c, e = .returned ({ m with begun := m.begun + 1, aa := a, ac := c, A := m.A ++ [newR m] } : Dm).agg ∧ DM Q w' { m with begun := m.begun + 1, aa := a, ac := c, A := m.A ++ [newR m] } ∧ Fr w w' (fun _ => False) := by
  have hwr : IntKind.i64.wrap (m.begun + 1) = m.begun + 1 := wrap_i64_fit _ (by omega) (by omega)
  obtain ⟨hb, hz, hf⟩ := two_boxes w m
  obtain ⟨w2, hw2⟩ : ∃ w2, w2 = ((w.alloc (.cells #[.int .i64 m.now, .int .i64 m.last, .int .i64 m.begun, .slice m.aa m.A.length m.ac, .slice m.ha m.H.length m.hc] 29)).alloc (.cells #[.int .i64 0, .int .i64 0, .int .i64 0, .slice none 0 0, .slice none 0 0] 29)) := ⟨_, rfl⟩
  rw [← hw2] at hb hz hf
  have HW2 := hide hw2
  clear hw2
  have hg1 : w.heap.size + 1 < w2.heap.size := hz.lt
  obtain ⟨⟨a0, a1, a2, a3, a4⟩, _, _, y2, _, _⟩ := hb.all
  obtain ⟨w3, hw3⟩ : ∃ w3, w3 = w2.setCell ⟨w.heap.size, 2, none⟩ (.int .i64 (m.begun + 1)) := ⟨_, rfl⟩
  have F3 : Fr w2 w3 (fun k => k = w.heap.size) := by rw [hw3]; exact Fr.setCell _ _ _
  have hb3 : BoxM w3 w.heap.size { m with begun := m.begun + 1 } := by rw [hw3]; exact hb.begun' _
  have hz3 := hz.fr F3 (fun h => by have h : w.heap.size + 1 = w.heap.size := h; omega)
  have hf3 : Fr w w3 (fun _ => False) := by rw [hw3]; exact hf.box (Nat.le_refl _)
  have hA3 := h.1.fr hf3 (fun _ _ h => h)
  have hs3 := F3.size
  have HW3 := hide hw3
  clear hw3
  have F4 := Fr.alloc w3 (.cells #[] 49) (fun _ => False)
  obtain ⟨⟨b0, b1, b2, b3, b4⟩, _⟩ := (hb3.fr F4 (fun h => h)).all
  obtain ⟨v5, w5, hr5, hG5⟩ := (empty_row w3 49).row ty26 26 (ownsRow_fr hA3.1 F4 (fun _ _ h => h)) (by simp; omega)
  rw [List.nil_append] at hG5
  have hb5 := hb3.fr hG5.2.1 (fun h => h)
  obtain ⟨⟨c0, c1, c2, c3, c4⟩, _⟩ := hb5.all
  obtain ⟨v7, w7, hr7, hG7⟩ := hG5.push ty26 26 (newR m) (by omega)
  obtain ⟨LL, hLL⟩ : ∃ LL, LL = m.A ++ [newR m] := ⟨_, rfl⟩
  rw [← hLL] at hG7
  rw [← hLL]
  obtain ⟨a7, c7, rfl⟩ := hG7.shape
  have hb7 := hb3.fr hG7.2.1 (fun h => h)
  have hz7 := hz3.fr hG7.2.1 (fun h => h)
  obtain ⟨⟨d0, d1, d2, d3, d4⟩, e0, e1, e2, e3, e4⟩ := hb7.all
  obtain ⟨w8, hw8⟩ : ∃ w8, w8 = w7.setCell ⟨w.heap.size, 3, none⟩ (.slice a7 LL.length c7) := ⟨_, rfl⟩
  have F8 : Fr w7 w8 (fun k => k = w.heap.size) := by rw [hw8]; exact Fr.setCell _ _ _
  have hb8 : BoxM w8 w.heap.size { m with begun := m.begun + 1, aa := a7, ac := c7, A := LL } := by rw [hw8]; exact hb7.act' _ _ _
  have hz8 := hz7.fr F8 (fun h => by have h : w.heap.size + 1 = w.heap.size := h; omega)
  have hf8 : Fr w w8 (fun _ => False) := by rw [hw8]; exact (hf3.two hG7.2.1).box (Nat.le_refl _)
  obtain ⟨⟨f0, f1, f2, f3, f4⟩, _⟩ := hb8.all
  obtain ⟨⟨g0, g1, g2, g3, g4⟩, i0, i1, i2, i3, i4⟩ := hz8.all
  have HO := out_box (m := { m with begun := m.begun + 1, aa := a7, ac := c7, A := LL }) hz8 (by omega) hf8
  have HDM : Hid (∀ w', Fr w8 w' (fun k => k = w.heap.size + 1) → Fr w w' (fun _ => False) → DM Q w' { m with begun := m.begun + 1, aa := a7, ac := c7, A := LL }) := hide (fun w' q1 q2 => by
    refine ⟨⟨ownsRow_fr (ownsRow_fr hG7.1 F8 (fun k hk h => by have := hG7.2.2 k hk; have h : k = w.heap.size := h; omega)) q1 (fun k hk h => by have := hG7.2.2 k hk; have h : k = w.heap.size + 1 := h; omega), fun k hk => hQ k (by have := hG7.2.2 k hk; have := hf3.size; omega), fun x hx => ?_⟩, h.2.fr q2 (fun _ _ h => h)⟩
    rw [hLL] at hx
    rcases List.mem_append.1 hx with hx | hx
    · exact (h.1.2.2 x hx).fr q2 (fun _ _ h => h)
    · have : x = newR m := by simpa using hx
      subst this
      exact ⟨rfl, fun i y hi => (by cases hi), fun _ => rfl⟩)
  have HF := hide (Fr.set5 w8 (w.heap.size + 1) 0 1 2 3 4 (.int .i64 m.now) (.int .i64 m.last) (.int .i64 (m.begun + 1)) (.slice a7 LL.length c7) (.slice m.ha m.H.length m.hc))
  dsimp only at b0 b1 b2 b3 b4 c0 c1 c2 c3 c4 d0 d1 d2 d3 d4 f0 f1 f2 f3 f4 HO
  dsimp only [newR] at hr7
  clear hb hz hf hg1 F3 hb3 hz3 hf3 hA3 hs3 F4 hG5 hb5 hG7 hb7 hz7 F8 hb8 hz8 hf8 h hQ
  unfold Dm.agg
  have HW8 := hide hw8
  clear hw8
  clear hLL
  go_enter Try.func22, Try.ntmps22
  go_wp2_with (first | (rw [← HW8.out]; clear HW8) | (rw [← HW2.out]; clear HW2) | (rw [← HW3.out]; clear HW3) | (refine wpList_plain rfl fun _ hK => wp_append_to (.tmp 8) (.tmp 10) 26 rfl _ rfl _ rfl (.slice (some ⟨w3.heap.size, 0, none⟩) 0 0) (.slice m.aa m.A.length m.ac) rfl rfl _ _ hr5 (hK _ _ ?_); clear hK) | (refine wpList_plain rfl fun _ hK => wp_append_to (.tmp 12) (.tmp 18) 26 rfl _ rfl _ rfl v5 (.slice (some ⟨w5.heap.size, 0, none⟩) 1 1) rfl rfl _ _ hr7 (hK _ _ ?_); clear hK))
  exact bodyPost_ret (results_m1 Try.results22 _ _ (w.heap.size + 1) HO.out.1 rfl) rfl ⟨a7, c7, rfl, HDM.out _ HF.out HO.out.2, HO.out.2⟩
end Go.Proofs.Ytiooacaplajidaa
