/- Create. -/
import Derived.Test.YtdeopneififnnaaN
namespace Go.Proofs.Ytdeopneififnnaa
open Go.RowKit
set_option maxRecDepth 100000
set_option linter.unusedVariables false
set_option linter.unusedSimpArgs false

theorem wpAnyK_weak {P : Program} {ops : Array Oper} {Q : Exit → Act → World → Prop} {md : Region.Mode} {S : World → Prop} {hold : Nat → Bool} : ∀ (fuel : Nat) (listed : Array Bool) (a : Act) (w : World), wpAnyK P md ops Q hold S fuel listed a w → wpAnyK P md ops Q (fun _ => true) (fun _ => True) fuel listed a w
  | 0, _, _, _, H => H
  | fuel + 1, _, _, _, H => ⟨H.1, fun i hi => wpOp_mono (fun a' w' h' => ⟨fun _ => trivial, wpAnyK_weak fuel _ a' w' h'.2⟩) (H.2 i hi)⟩
theorem TabIn.lt {P : Nat → Prop} {w : World} {t : Tb} (h : TabIn P w t) : TabIn (fun g => P g ∧ g < w.heap.size) w t :=
  ⟨fun i x hi => by obtain ⟨g, off, e1, e2, e3⟩ := h.cols i x hi; exact ⟨g, off, e1, ⟨e2, World.block_lt_of_cell? w _ e3.1⟩, e3⟩, h.cn, h.cb, h.cs.imp (fun h => h) (fun ⟨g, off, e1, e2, e3⟩ => ⟨g, off, e1, ⟨e2, e3⟩, e3⟩), fun i x hi => by obtain ⟨g, off, e1, e2, e3⟩ := h.keys i x hi; exact ⟨g, off, e1, ⟨e2, World.block_lt_of_cell? w _ e3⟩, e3⟩, h.kn, h.kb, h.ks.imp (fun h => h) (fun ⟨g, off, e1, e2, e3⟩ => ⟨g, off, e1, ⟨e2, e3⟩, e3⟩), h.id⟩
theorem full30 : ∃ i, Try.prog.info? 30 = some i ∧ i.zero = some (.agg #[.int .i64 0, .string ⟨#[]⟩, .slice none 0 0, .slice none 0 0, .bool false]) ∧ i.size = 5 ∧ i.bytes = 80 := by
  have h0 : (Try.prog.info? 30).isSome = true := by kernel_rfl
  have h1 : (Try.prog.info? 30).bind (·.zero) = some (.agg #[.int .i64 0, .string ⟨#[]⟩, .slice none 0 0, .slice none 0 0, .bool false]) := by kernel_rfl
  have h2 : (Try.prog.info? 30).map (·.size) = some 5 := by kernel_rfl
  have h3 : (Try.prog.info? 30).map (·.bytes) = some 80 := by kernel_rfl
  obtain ⟨i, hi⟩ := Option.isSome_iff_exists.1 h0
  rw [hi] at h1 h2 h3
  exact ⟨i, hi, h1, Option.some.inj h2, Option.some.inj h3⟩
/-- A row of tables with one more. -/
theorem push_tab {W : World} {v : Value} {L : List Tb} (h : W.ownsRow 0 30 5 v L.length (encT L)) (t : Tb) (hb : L.length ≤ 1048576) :
    ∃ a c w', (Builtin.append_ #[40, 40] 40 #[v, .slice (some ⟨W.heap.size, 0, none⟩) 1 1]).run Try.prog (W.alloc (.cells #[.int .i64 t.id, .string t.name, .slice t.ca t.cn t.cc, .slice t.ka t.kn t.kc, .bool t.ix] 30)) = .ok (.slice a (L.length + 1) c) w' ∧ w'.ownsRow 0 30 5 (.slice a (L.length + 1) c) (L ++ [t]).length (encT (L ++ [t])) ∧
      Fr W w' (fun k => v.ownBlock = some k) ∧ Fresh W v (.slice a (L.length + 1) c) := by
  have F1 := Fr.alloc W (.cells #[.int .i64 t.id, .string t.name, .slice t.ca t.cn t.cc, .slice t.ka t.kn t.kc, .bool t.ix] 30) (fun _ => False)
  have b := heap_alloc_new W (.cells #[.int .i64 t.id, .string t.name, .slice t.ca t.cn t.cc, .slice t.ka t.kn t.kc, .bool t.ix] 30)
  obtain ⟨i, hi, hz, hs, hby⟩ := full30
  obtain ⟨v', W', hr, q1, q2, q3⟩ := run_append_gen (P := Try.prog) (W.alloc (.cells #[.int .i64 t.id, .string t.name, .slice t.ca t.cn t.cc, .slice t.ka t.kn t.kc, .bool t.ix] 30)) 40 40 30 i _ 5 80 Try.underlying40 hi hz hs hby rfl (by omega) v L.length (encT L) (ownsRow_fr h F1 (fun _ _ h => h)) ⟨W.heap.size, 0, none⟩ 1 1 t.cells rfl (fun j u hu => by
    rw [Addr.add_mid, Nat.zero_add]
    match j, hu with
    | 0, hu => cases hu; exact (cell_of_row _ _ _ _ _ _ b).trans rfl
    | 1, hu => cases hu; exact (cell_of_row _ _ _ _ _ _ b).trans rfl
    | 2, hu => cases hu; exact (cell_of_row _ _ _ _ _ _ b).trans rfl
    | 3, hu => cases hu; exact (cell_of_row _ _ _ _ _ _ b).trans rfl
    | 4, hu => cases hu; exact (cell_of_row _ _ _ _ _ _ b).trans rfl) (fun u hu => by
      simp [Tb.cells] at hu
      rcases hu with rfl | rfl | rfl | rfl | rfl <;> rfl) (by unfold maxLen; omega) (by omega)
  obtain ⟨a, c, rfl⟩ := shape_n q1
  refine ⟨a, c, W', hr, ?_, (F1.trans (Fr.grown q2)).mono (fun k _ hh => hh.elim (fun h => h.elim) id), ?_⟩
  · rw [List.length_append, encT_append]
    have e : encT [t] = t.cells := by unfold encT; simp
    rw [e]
    exact q1
  · rcases q3 with q | ⟨p, q, hp⟩
    · exact .inl q
    · exact .inr ⟨p, q, Nat.le_trans F1.size hp⟩
def hasT (L : List Tb) (s : ByteArray) : Bool := L.any (fun x => decide (x.name = s))
theorem placeT_has {s : ByteArray} {L : List Tb} {r : Int} (h : PlaceT s L r) : hasT L s = decide (0 ≤ r) := by
  unfold hasT
  rcases h with ⟨i, x, h1, h2, _, rfl⟩ | ⟨h1, rfl⟩
  · rw [List.any_eq_true.2 ⟨x, List.mem_of_getElem? h1, by simp [h2]⟩]
    simp
  · rw [show L.any (fun c => decide (c.name = s)) = false from by
      rw [List.any_eq_false]
      intro x hx
      simp [h1 x hx]]
    rfl
/-- The error of Create. -/
def createE (L : List Tb) (t : Tb) : Int := if chkP t.name t.C t.K ≠ 0 then chkP t.name t.C t.K else if hasT L t.name = true then 162 else if 16 ≤ L.length then 3 else 0
def CreP (X : Nat → Prop) (L : List Tb) (t : Tb) (gc : Nat) (w : World) (e : Ending) (w' : World) : Prop :=
  (createE L t ≠ 0 ∧ e = .returned (.tuple #[.int .i64 0, .int .i64 (createE L t)]) ∧ Fr w w' (fun _ => False)) ∨
  (createE L t = 0 ∧ e = .returned (.tuple #[.int .i64 t.id, .int .i64 0]) ∧ Fr w w' X ∧ ∃ v' a c a2 c2, Cat (fun k => X k ∨ w.heap.size ≤ k) w' gc v' (L ++ [{ t with ca := a, cc := c, ka := a2, kc := c2 }]))
set_option maxHeartbeats 8000000 in
theorem create_any {X P : Nat → Prop} {w : World} {gc : Nat} {v : Value} {L : List Tb} (h : Cat X w gc v L) (hb : L.length ≤ 1048576) (t : Tb) (hid : t.id = (L.length : Int) + 1) (hix : t.ix = false) (ht : TabIn P w t) :
    Calls Try.prog 12 #[.pointer (some ⟨gc, 0, none⟩), .string t.name, .slice t.ca t.cn t.cc, .slice t.ka t.kn t.kc] w (CreP X L t gc w) := by
  obtain ⟨w1, hw1⟩ : ∃ w1, w1 = w.alloc (.cells #[.int .i64 t.id, .string t.name, .slice t.ca t.cn t.cc, .slice t.ka t.kn t.kc, .bool t.ix] 30) := ⟨_, rfl⟩
  have b1 : BoxT w1 w.heap.size t := by rw [hw1]; exact heap_alloc_new w _
  have f1 : Fr w w1 (fun _ => False) := by rw [hw1]; exact Fr.alloc w _ _
  have hgl : gc < w.heap.size := (Array.getElem?_eq_some_iff.1 h.box).1
  have hvl : ∀ k, v.ownBlock = some k → k < w.heap.size := fun k hk => ownsRow_lt h.row hk
  have h1 := h.fr f1 (fun _ _ h => h)
  have c0 := h.cell
  obtain ⟨a, c, rfl⟩ := shape_n h.row
  have HC := hide (check_any t (ht.fr f1 (fun _ _ h => h)))
  obtain ⟨n, hn⟩ : ∃ n, n = L.length := ⟨_, rfl⟩
  rw [← hn] at c0 h1 hid hb hvl
  obtain ⟨cells, hcells⟩ := (⟨b1.cells, rfl⟩ : ∃ x, x = b1.cells)
  obtain ⟨x0, x1, x2, x3, x4⟩ := b1.cells
  have HC1 := hide h1
  have HB1 := hide b1
  have HF1 := hide f1
  have HT1 := hide (ht.fr f1 (fun _ _ h => h))
  have HGL := hide hgl
  have HVL := hide hvl
  have HN := hide hn
  have HID := hide hid
  have HSZ : Hid (w1.heap.size = w.heap.size + 1) := hide (by rw [hw1]; simp)
  have hbi : (n : Int) + 1 ≤ 1048577 := by omega
  rw [hid, hix] at hw1
  have HW := hide hw1
  have HIX := hide hix
  clear h h1 b1 f1 ht hgl hvl hw1 hn hid hcells cells hix
  unfold Tb.agg at HC
  go_enter Try.func12, Try.ntmps12
  go_wp2_with (rw [← HW.out]; clear HW)
  refine HC.out.mono ?_
  rintro e w2 ⟨rfl, fV⟩
  have HC2 := hide (HC1.out.fr fV (fun _ _ h => h))
  have HB2 := hide (HB1.out.fr fV (fun h => h))
  have HF2 := hide (HF1.out.two fV)
  have HT2 := hide (HT1.out.fr fV (fun _ _ h => h))
  have HSZ2 : Hid (w.heap.size + 1 ≤ w2.heap.size) := hide (by rw [← HSZ.out]; exact fV.size)
  clear HC fV HC1 HB1 HF1 HT1 HSZ c0 x0 x1 x2 x3 x4
  obtain ⟨x0, x1, x2, x3, x4⟩ := HB2.out.cells
  have c0 := HC2.out.cell
  by_cases hk : chkP t.name t.C t.K = 0
  case neg =>
    have HE : Hid (createE L t = chkP t.name t.C t.K) := hide (by unfold createE; rw [if_pos hk])
    have HK := hide hk
    have hkb : (chkP t.name t.C t.K != 0) = true := by simp [hk]
    have hkp : ¬ (chkP t.name t.C t.K = 0) := hk
    clear hk
    generalize chkP t.name t.C t.K = code at *
    go_wp2
    go_ret2
    exact .inl ⟨by rw [HE.out]; exact HK.out, by rw [HE.out]; rfl, HF2.out⟩
  have HK := hide hk
  rw [hk]
  clear hk
  have HP := hide (place_any HC2.out (by rw [← HN.out]; exact hb) t.name)
  go_wp2_with fail
  refine HP.out.mono ?_
  rintro e w3 ⟨rr, rfl, hr, fV⟩
  have hh := placeT_has hr
  have HC3 := hide (HC2.out.fr fV (fun _ _ h => h))
  have HB3 := hide (HB2.out.fr fV (fun h => h))
  have HF3 := hide (HF2.out.two fV)
  have HT3 := hide (HT2.out.fr fV (fun _ _ h => h))
  have HSZ3 : Hid (w.heap.size + 1 ≤ w3.heap.size) := hide (Nat.le_trans HSZ2.out fV.size)
  clear HP fV HC2 HB2 HF2 HT2 HSZ2 c0 x0 x1 x2 x3 x4 hr
  obtain ⟨x0, x1, x2, x3, x4⟩ := HB3.out.cells
  have c0 := HC3.out.cell
  by_cases h0 : 0 ≤ rr
  · have HE : Hid (createE L t = 162) := hide (by unfold createE; rw [if_neg (fun h => h HK.out), if_pos (by rw [hh]; simp; omega)])
    have h0b : decide (rr ≥ 0) = true := by simp; omega
    clear hh h0
    go_wp2
    go_ret2
    exact .inl ⟨by rw [HE.out]; decide, by rw [HE.out]; rfl, HF3.out⟩
  have h0b : decide (rr ≥ 0) = false := by simp; omega
  have HNT : Hid (¬ hasT L t.name = true) := hide (by rw [hh]; simp; omega)
  clear hh h0
  by_cases h16 : 16 ≤ n
  · have HE : Hid (createE L t = 3) := hide (by unfold createE; rw [if_neg (fun h => h HK.out), if_neg HNT.out, if_pos (by rw [← HN.out]; exact h16)])
    have h6 : t.id > 16 := by rw [HID.out]; omega
    have h6b : decide (t.id > 16) = true := by simpa using h6
    clear h16
    go_wp2
    go_ret2
    exact .inl ⟨by rw [HE.out]; decide, by rw [HE.out]; rfl, HF3.out⟩
  have HE : Hid (createE L t = 0) := hide (by unfold createE; rw [if_neg (fun h => h HK.out), if_neg HNT.out, if_neg (by rw [← HN.out]; exact h16)])
  have h6 : ¬ (t.id > 16) := by rw [HID.out]; omega
  have h6b : decide (t.id > 16) = false := by simpa using h6
  clear h16
  go_wp2_with fail
  replace HC3 := hide (HC3.out.fr (Fr.drew w3 (fun _ => False)) (fun _ _ h => h))
  replace HB3 := hide (HB3.out.fr (Fr.drew w3 (fun _ => False)) (fun h => h))
  replace HT3 := hide (HT3.out.fr (Fr.drew w3 (fun _ => False)) (fun _ _ h => h))
  replace HF3 := hide (HF3.out.two (Fr.drew w3 _))
  replace HSZ3 : Hid (w.heap.size + 1 ≤ w3.drew.heap.size) := hide HSZ3.out
  refine wp_region_K (fun _ => true) (fun _ => True) (by kernel_rfl) ?_
  generalize w3.drew = U0 at *
  have HG0 := HSZ3
  clear c0 x0 x1 x2 x3 x4 h6 h6b h0b
  refine wpAnyK_takeTo 0 (some 36) (.pointer (some ⟨gc, 0, none⟩)) [9, 10, 11] rfl rfl (by kernel_rfl) (by kernel_rfl) (by kernel_rfl) (by kernel_rfl) (fun _ _ _ h => h) trivial (Or.inl ⟨rfl, fun w1 hw1 => by go_simp⟩) ?_
  simp only [Act.put, List.setIfInBounds_toArray, List.set_cons_zero, List.set_cons_succ]
  refine wpAnyK_takeTo 1 (some 37) (.pointer (some ⟨gc, 0, none⟩)) [2, 3, 4, 8, 9, 10, 11] rfl rfl (by kernel_rfl) (by kernel_rfl) (by kernel_rfl) (by kernel_rfl) (fun _ _ _ h => h) trivial (Or.inl ⟨rfl, fun w1 hw1 => by go_simp⟩) ?_
  simp only [Act.put, List.setIfInBounds_toArray, List.set_cons_zero, List.set_cons_succ]
  refine wpAnyK_takeTo 2 (some 38) (.pointer (some ⟨gc, 0, none⟩)) [3, 4, 8, 9, 10, 11] rfl rfl (by kernel_rfl) (by kernel_rfl) (by kernel_rfl) (by kernel_rfl) (fun _ _ _ h => h) trivial (Or.inl ⟨rfl, fun w1 hw1 => by go_simp⟩) ?_
  simp only [Act.put, List.setIfInBounds_toArray, List.set_cons_zero, List.set_cons_succ]
  refine wpAnyK_takeTo 3 (some 39) (.pointer (some ⟨gc, 0, none⟩)) [4, 8, 9, 10, 11] rfl rfl (by kernel_rfl) (by kernel_rfl) (by kernel_rfl) (by kernel_rfl) (fun _ _ _ h => h) trivial (Or.inl ⟨rfl, fun w1 hw1 => by go_simp⟩) ?_
  simp only [Act.put, List.setIfInBounds_toArray, List.set_cons_zero, List.set_cons_succ]
  refine wpAnyK_weak (S := fun U : World => Fr U0 U (fun _ => False)) (hold := fun z => decide (z < 8)) _ _ _ _ ?_
  have hS : (fun U : World => Fr U0 U (fun _ => False)) U0 := Fr.refl _ _
  refine wpAnyK_takeTo 4 (some 40) (.slice a n c) [8, 9, 10, 11] rfl rfl (by kernel_rfl) (by kernel_rfl) (by kernel_rfl) (by kernel_rfl) (fun _ _ _ h => h) hS (Or.inl ⟨rfl, fun w1 hw1 => by have k0 := (HC3.out.fr hw1 (fun _ _ h => h)).cell; obtain ⟨x0, x1, x2, x3, x4⟩ := (HB3.out.fr hw1 (fun h => h)).cells; go_simp⟩) ?_
  simp only [Act.put, List.setIfInBounds_toArray, List.set_cons_zero, List.set_cons_succ]
  refine wpAnyK_takeTo 5 (some 41) (.agg #[.int .i64 t.id, .string t.name, .slice t.ca t.cn t.cc, .slice t.ka t.kn t.kc, .bool t.ix]) [6, 7, 8, 9, 10, 11] rfl rfl (by kernel_rfl) (by kernel_rfl) (by kernel_rfl) (by kernel_rfl) (fun _ _ _ h => h) hS (Or.inl ⟨rfl, fun w1 hw1 => by have k0 := (HC3.out.fr hw1 (fun _ _ h => h)).cell; obtain ⟨x0, x1, x2, x3, x4⟩ := (HB3.out.fr hw1 (fun h => h)).cells; go_simp⟩) ?_
  simp only [Act.put, List.setIfInBounds_toArray, List.set_cons_zero, List.set_cons_succ]
  clear hS
  refine wpAnyK_one (i := 6) (by kernel_rfl) rfl rfl ?_
  refine wp_call_to (some 42) rfl 30 #[.agg #[.int .i64 t.id, .string t.name, .slice t.ca t.cn t.cc, .slice t.ka t.kn t.kc, .bool t.ix]] (by go_simp) (own_any t HT3.out) ?_
  rintro e U1 ⟨a1, c1, a2, c2, rfl, ht1, g1⟩
  refine ⟨_, rfl, fun _ => g1, ?_⟩
  simp only [Act.put, List.setIfInBounds_toArray, List.set_cons_zero, List.set_cons_succ]
  have HC4 := hide (HC3.out.fr g1 (fun _ _ h => h))
  have HB4 := hide (HB3.out.fr g1 (fun h => h))
  have HF4 := hide (HF3.out.two g1)
  have HT4 := hide ht1
  have HSZ4 : Hid (w.heap.size + 1 ≤ U1.heap.size) := hide (Nat.le_trans HSZ3.out g1.size)
  have HG1 := hide g1
  clear HC3 HB3 HF3 HT3 g1 ht1
  obtain ⟨a3, c3, U3, hap, hrow3, f3, fr3⟩ := push_tab HC4.out.row { t with ca := a1, cc := c1, ka := a2, kc := c2 } (by rw [← HN.out]; exact hb)
  rw [← HN.out] at hap fr3
  obtain ⟨m, hm⟩ : ∃ m, m = n + 1 := ⟨_, rfl⟩
  have hrow3' : U3.ownsRow 0 30 5 (.slice a3 m c3) (L ++ [{ t with ca := a1, cc := c1, ka := a2, kc := c2 }]).length (encT (L ++ [{ t with ca := a1, cc := c1, ka := a2, kc := c2 }])) := by rw [hm, HN.out]; exact hrow3
  rw [← hm] at hap fr3
  have hgr : ∀ k, (Value.slice a n c).ownBlock = some k → k ≠ gc := fun k hk => (HC4.out.xr k hk).2
  have hbx3 : U3.heap[gc]? = some (.cells #[.slice a n c] 69 (0, 0)) := by
    rw [f3.block gc (Array.getElem?_eq_some_iff.1 HC4.out.box).1 (fun hk => hgr gc hk rfl)]
    exact HC4.out.box
  have k3 : U3.cell? ⟨gc, 0, none⟩ = some (.slice a n c) := (cell_of_row _ _ _ _ _ _ hbx3).trans rfl
  have z3 : U3.frozen? ⟨gc, 0, none⟩ = false := by simp [World.frozen?, hbx3]
  obtain ⟨U4, hU4⟩ : ∃ U4, U4 = U3.setCell ⟨gc, 0, none⟩ (.slice a3 m c3) := ⟨_, rfl⟩
  have hbx4 : U4.heap[gc]? = some (.cells #[.slice a3 m c3] 69 (0, 0)) := by rw [hU4]; exact heap_setCell_here _ gc 0 _ _ _ _ hbx3
  have f4 : Fr U3 U4 (fun k => k = gc) := by rw [hU4]; exact Fr.setCell _ _ _
  have F4 : Fr U1 U4 (fun k => (Value.slice a n c).ownBlock = some k ∨ k = gc) := f3.trans f4
  have hng3 : ∀ k, (Value.slice a3 m c3).ownBlock = some k → (X k ∨ w.heap.size ≤ k) ∧ k ≠ gc := fun k hk => by
    rcases fr3 with q | ⟨p, q, hp⟩
    · rw [q] at hk; exact ⟨.inl (HC4.out.xr k hk).1, (HC4.out.xr k hk).2⟩
    · rw [q] at hk; cases hk
      have := HSZ4.out; have := HGL.out
      exact ⟨.inr (by omega), by omega⟩
  have HCE : Hid (Cat (fun k => X k ∨ w.heap.size ≤ k) U4 gc (.slice a3 m c3) (L ++ [{ t with ca := a1, cc := c1, ka := a2, kc := c2 }])) := hide ⟨hbx4, ownsRow_fr hrow3' f4 (fun k hk => (hng3 k hk).2), .inl HC4.out.xg, hng3, fun x hx => by
    rcases List.mem_append.1 hx with hx | hx
    · refine ((HC4.out.tabs x hx).lt.fr F4 (fun k hk h => ?_)).mono (fun k hk => ⟨.inl hk.1.1, hk.1.2.1, fun he => ?_⟩)
      · rcases h with h | h
        · exact hk.1.2.2 h
        · exact hk.1.2.1 h
      · rcases fr3 with q | ⟨p, q, hp⟩
        · rw [q] at he; exact hk.1.2.2 he
        · rw [q] at he; cases he; omega
    · obtain rfl : x = _ := List.mem_singleton.1 hx
      have hsz0 := HG0.out
      refine (HT4.out.lt.fr F4 (fun k hk h => ?_)).mono (fun k hk => ⟨.inr (by omega), ?_, fun he => ?_⟩)
      · rcases h with h | h
        · have := HVL.out k h; omega
        · have := HGL.out; omega
      · have := HGL.out; omega
      · rcases fr3 with q | ⟨p, q, hp⟩
        · rw [q] at he; have := HVL.out k he; omega
        · rw [q] at he; cases he; omega⟩
  have HF5 : Hid (Fr w U4 X) := hide ((HF4.out.trans F4).mono (fun k hk h => by
    rcases h with h | h | h
    · exact h.elim
    · exact (HC4.out.xr k h).1
    · rw [h]; exact HC4.out.xg))
  have HB5 := hide (HB4.out.fr F4 (fun h => by
    rcases h with h | h
    · have := HVL.out _ h; omega
    · have := HGL.out; omega))
  have HU4 := hide hU4
  clear hrow3 hrow3' hgr hbx3 hbx4 f3 f4 F4 fr3 hng3 HC4 HB4 HF4 HT4 hU4 hm
  refine wpAnyK_one (i := 7) (by kernel_rfl) rfl rfl ?_
  go_simp
  refine ⟨HG1.out.two (Fr.alloc _ _ _), ?_⟩
  refine wpAnyK_one (i := 8) (by kernel_rfl) rfl rfl ?_
  refine wp_append_to (.tmp 40) (.tmp 43) 40 rfl (some 44) rfl 40 rfl (.slice a n c) (.slice (some ⟨U1.heap.size, 0, none⟩) 1 1) rfl rfl _ _ hap ⟨fun h => by simp at h, ?_⟩
  simp only [Act.put, List.setIfInBounds_toArray, List.set_cons_zero, List.set_cons_succ]
  clear hap
  refine wpAnyK_one (i := 9) (by kernel_rfl) rfl rfl ?_
  go_simp
  refine wpAnyK_one (i := 10) (by kernel_rfl) rfl rfl ?_
  go_simp
  refine wpAnyK_one (i := 11) (by kernel_rfl) rfl rfl ?_
  go_simp
  rw [← HU4.out]
  refine wpAnyK_done (by kernel_rfl) ?_ _
  clear HU4 k3 z3
  obtain ⟨x0, x1, x2, x3, x4⟩ := HB5.out.cells
  go_wp2
  go_ret2
  exact .inr ⟨HE.out, rfl, HF5.out, _, a1, c1, a2, c2, HCE.out⟩
end Go.Proofs.Ytdeopneififnnaa
