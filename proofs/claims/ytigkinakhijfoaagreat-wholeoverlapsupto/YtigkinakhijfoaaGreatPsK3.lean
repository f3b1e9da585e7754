/- behead, walked. -/
import Derived.Test.YtigkinakhijfoaaGreatJPe
namespace Go.Proofs.YtigkinakhijfoaaGreat.Ps
open Go.RowKit Go.Sort
set_option maxRecDepth 100000
set_option linter.unusedVariables false
set_option linter.unusedSimpArgs false

theorem NodeC.pt {w : World} {g : Nat} {p f : Pt} {lv rv : Value} {n : Nat} (h : NodeC w g p f lv rv n) : PtAt w g 0 p := ⟨h.c0, h.c1, h.c2⟩
set_option maxHeartbeats 16000000 in
theorem behead_any : ∀ (t : PT) (w : World) (base : Nat) (v : Value) (S : Nat → Prop) (h : TreeAt w base t v S) (hok : t.Ok) (hid : Ids t.pts) (hsz : t.size ≤ 1099511627776) (hb : base ≤ w.heap.size) (p f : Pt) (l r : PT) (ht : t = .node p f l r),
    Calls Tryz.prog 37 #[v] w fun e w' => BehPost w base p t.pts S e w' := by
  intro t
  induction t with
  | nil => intro w base v S h hok hid hsz hb p f l r ht; cases ht
  | node t0 f l r ihl ihr =>
    intro w base v S h hok hid hsz hb p' f' l' r' ht
    cases ht
    obtain ⟨g, cl, cr, Sl, Sr, rfl, hg, hN, hl, hr, d1, d2, d3, hS0⟩ := h
    obtain ⟨la, rfl⟩ := hl.ptr
    obtain ⟨ra, rfl⟩ := hr.ptr
    have hsz2 : l.size + r.size + 1 ≤ 1099511627776 := hsz
    have hgw : g < w.heap.size := (Array.getElem?_eq_some_iff.1 hN).1
    have HLL : Hid (∀ k, Sl k → k < w.heap.size) := hide (fun k hk => (hl.lt k hk).2)
    have HRR : Hid (∀ k, Sr k → k < w.heap.size) := hide (fun k hk => (hr.lt k hk).2)
    have HG : Hid (g < w.heap.size ∧ base ≤ g) := hide ⟨hgw, hg⟩
    have HS0 := hide hS0
    have HOK := hide hok
    have HID := hide hid
    have HIL := hide ihl
    have HIR := hide ihr
    have HD := hide (And.intro d1 (And.intro d2 d3))
    have HB := hide hb
    have HSZ := hide hsz2
    clear hok ihl ihr d1 d2 d3 hS0 hid hsz hb hg hsz2
    rcases Nat.eq_zero_or_pos (l.size + r.size) with hz | hz
    · have hl0 : l = .nil := by cases l with | nil => rfl | node _ _ _ _ => simp [PT.size] at hz
      have hr0 : r = .nil := by cases r with | nil => rfl | node _ _ _ _ => simp [PT.size] at hz
      subst hl0 hr0
      obtain ⟨c0, c1, c2, c3, c4, c5, c6, c7, c8⟩ := hN.c
      have c8' : w.cell? ⟨g, 8, none⟩ = some (.int .i64 1) := c8
      clear c8
      have hnil : TreeAt w base .nil (.pointer none) (fun _ => False) := ⟨rfl, fun _ h => h⟩
      have HNIL := hide hnil
      clear hnil hN hl hr
      go_enter Tryz.func37, Tryz.ntmps37
      go_wp2
      go_ret
      exact ⟨.nil, _, fun _ => False, rfl, HNIL.out, trivial, by simp [PT.pts], fun k hk => hk.elim, Fr.refl _ _⟩
    · obtain ⟨nn, hnn⟩ : ∃ nn, nn + 1 = l.size + r.size := ⟨l.size + r.size - 1, by omega⟩
      obtain ⟨M, hM⟩ : ∃ M, M = nn + 1 := ⟨_, rfl⟩
      generalize hNe : l.size + r.size + 1 = N at hN
      have hN1 : (N : Int) - 1 = (M : Int) := by omega
      have hNn : ¬ ((N : Int) = 1) := by omega
      have hNnb : ((N : Int) == 1) = false := by simp; omega
      have hNb : N ≤ 1099511627776 := by have := HSZ.out; omega
      have HNN : Hid (nn + 1 = l.size + r.size ∧ M = nn + 1) := hide ⟨hnn, hM⟩
      have HB0 : Hid (BS w base g t0 f la ra N l r Sl Sr w) := hide ⟨hN, hl, hr, Fr.refl _ _⟩
      clear hz hnn hM hNe
      cases l with
      | nil =>
        cases r with
        | nil => exact absurd HNN.out.1 (by simp [PT.size])
        | node b fb lb rb =>
          obtain ⟨hla, _⟩ := hl
          cases hla
          obtain ⟨gb, lv', rv', Sa', Sb', hra, _, hNb', _⟩ := hr
          cases hra
          go_enter Tryz.func37, Tryz.ntmps37
          obtain ⟨c0, c1, c2, c3, c4, c5, c6, c7, c8⟩ := HB0.out.no.c
          go_wp2_with fail
          have HB1 := hide (HB0.out.same (Fr.drew w (fun _ => False)))
          refine wp_region_K (fun _ => true) (fun U : World => U = w.drew) (by kernel_rfl) ?_
          clear c0 c1 c2 c3 c4 c5 c6 c7 c8 HB0
          generalize w.drew = U at *
          have hS : (fun V : World => V = U) U := rfl
          obtain ⟨c0, c1, c2, c3, c4, c5, c6, c7, c8⟩ := HB1.out.no.c
          refine wpAnyK_takeTo 0 (some 12) (.pointer (some ⟨g, 0, none⟩)) [1, 2, 3, 4, 5, 6, 7, 8, 9, 10, 11, 12, 13, 14, 15, 16, 17, 18, 19, 20, 21, 22, 23, 24, 25, 26, 27, 28] rfl rfl (by kernel_rfl) (by kernel_rfl) (by kernel_rfl) (by kernel_rfl) (fun _ _ _ h => h) hS (Or.inl ⟨rfl, fun w1 hw1 => by have hw1 : w1 = U := hw1; subst hw1; go_simp⟩) ?_
          simp only [Act.put, List.setIfInBounds_toArray, List.set_cons_zero, List.set_cons_succ]
          refine wpAnyK_takeTo 1 (some 13) (.pointer (some ⟨g, 0, none⟩)) [2, 3, 4, 5, 6, 7, 8, 9, 10, 11, 12, 13, 14, 15, 16, 17, 18, 19, 20, 21, 22, 23, 24, 25, 26, 27, 28] rfl rfl (by kernel_rfl) (by kernel_rfl) (by kernel_rfl) (by kernel_rfl) (fun _ _ _ h => h) hS (Or.inl ⟨rfl, fun w1 hw1 => by have hw1 : w1 = U := hw1; subst hw1; go_simp⟩) ?_
          simp only [Act.put, List.setIfInBounds_toArray, List.set_cons_zero, List.set_cons_succ]
          refine wpAnyK_takeTo 2 (some 14) (.pointer (some ⟨g, 6, none⟩)) [3, 4, 5, 6, 7, 8, 9, 10, 11, 12, 13, 14, 15, 16, 17, 18, 19, 20, 21, 22, 23, 24, 25, 26, 27, 28] rfl rfl (by kernel_rfl) (by kernel_rfl) (by kernel_rfl) (by kernel_rfl) (fun _ _ _ h => h) hS (Or.inl ⟨rfl, fun w1 hw1 => by have hw1 : w1 = U := hw1; subst hw1; go_simp⟩) ?_
          simp only [Act.put, List.setIfInBounds_toArray, List.set_cons_zero, List.set_cons_succ]
          refine wpAnyK_takeTo 3 (some 15) (.pointer none) [4, 5, 6, 7, 8, 9, 10, 11, 12, 13, 14, 15, 16, 17, 18, 19, 20, 21, 22, 23, 24, 25, 26, 27, 28] rfl rfl (by kernel_rfl) (by kernel_rfl) (by kernel_rfl) (by kernel_rfl) (fun _ _ _ h => h) hS (Or.inl ⟨rfl, fun w1 hw1 => by have hw1 : w1 = U := hw1; subst hw1; go_simp⟩) ?_
          simp only [Act.put, List.setIfInBounds_toArray, List.set_cons_zero, List.set_cons_succ]
          refine wpAnyK_takeTo 4 (some 16) (.bool true) [5, 6, 7, 8, 9, 10, 11, 12, 13, 14, 15, 16, 17, 18, 19, 20, 21, 22, 23, 24, 25, 26, 27, 28] rfl rfl (by kernel_rfl) (by kernel_rfl) (by kernel_rfl) (by kernel_rfl) (fun _ _ _ h => h) hS (Or.inl ⟨rfl, fun w1 hw1 => by have hw1 : w1 = U := hw1; subst hw1; go_simp⟩) ?_
          simp only [Act.put, List.setIfInBounds_toArray, List.set_cons_zero, List.set_cons_succ]
          refine wpAnyK_takeTo 5 (some 17) (.bool true) [6, 7, 8, 9, 10, 11, 12, 13, 14, 15, 16, 17, 18, 19, 20, 21, 22, 23, 24, 25, 26, 27, 28] rfl rfl (by kernel_rfl) (by kernel_rfl) (by kernel_rfl) (by kernel_rfl) (fun _ _ _ h => h) hS (Or.inl ⟨rfl, fun w1 hw1 => by have hw1 : w1 = U := hw1; subst hw1; go_simp⟩) ?_
          simp only [Act.put, List.setIfInBounds_toArray, List.set_cons_zero, List.set_cons_succ]
          refine wpAnyK_takeTo 6 (some 18) (undef) [7, 8, 9, 10, 11, 12, 13, 14, 15, 16, 17, 18, 19, 20, 21, 22, 23, 24, 25, 26, 27, 28] rfl rfl (by kernel_rfl) (by kernel_rfl) (by kernel_rfl) (by kernel_rfl) (fun _ _ _ h => h) hS (Or.inr ⟨rfl, rfl⟩) ?_
          simp only [Act.put, List.setIfInBounds_toArray, List.set_cons_zero, List.set_cons_succ]
          refine wpAnyK_takeTo 7 (some 19) (undef) [8, 9, 10, 11, 12, 13, 14, 15, 16, 17, 18, 19, 20, 21, 22, 23, 24, 25, 26, 27, 28] rfl rfl (by kernel_rfl) (by kernel_rfl) (by kernel_rfl) (by kernel_rfl) (fun _ _ _ h => h) hS (Or.inr ⟨rfl, rfl⟩) ?_
          simp only [Act.put, List.setIfInBounds_toArray, List.set_cons_zero, List.set_cons_succ]
          refine wpAnyK_takeTo 8 (some 20) (undef) [9, 10, 11, 12, 13, 14, 15, 16, 17, 18, 19, 20, 21, 22, 23, 24, 25, 26, 27, 28] rfl rfl (by kernel_rfl) (by kernel_rfl) (by kernel_rfl) (by kernel_rfl) (fun _ _ _ h => h) hS (Or.inr ⟨rfl, rfl⟩) ?_
          simp only [Act.put, List.setIfInBounds_toArray, List.set_cons_zero, List.set_cons_succ]
          refine wpAnyK_takeTo 9 (some 21) (undef) [10, 11, 12, 13, 14, 15, 16, 17, 18, 19, 20, 21, 22, 23, 24, 25, 26, 27, 28] rfl rfl (by kernel_rfl) (by kernel_rfl) (by kernel_rfl) (by kernel_rfl) (fun _ _ _ h => h) hS (Or.inr ⟨rfl, rfl⟩) ?_
          simp only [Act.put, List.setIfInBounds_toArray, List.set_cons_zero, List.set_cons_succ]
          refine wpAnyK_takeTo 10 (some 22) (undef) [11, 12, 13, 14, 15, 16, 17, 18, 19, 20, 21, 22, 23, 24, 25, 26, 27, 28] rfl rfl (by kernel_rfl) (by kernel_rfl) (by kernel_rfl) (by kernel_rfl) (fun _ _ _ h => h) hS (Or.inr ⟨rfl, rfl⟩) ?_
          simp only [Act.put, List.setIfInBounds_toArray, List.set_cons_zero, List.set_cons_succ]
          refine wpAnyK_takeTo 11 (some 23) (undef) [12, 13, 14, 15, 16, 17, 18, 19, 20, 21, 22, 23, 24, 25, 26, 27, 28] rfl rfl (by kernel_rfl) (by kernel_rfl) (by kernel_rfl) (by kernel_rfl) (fun _ _ _ h => h) hS (Or.inr ⟨rfl, rfl⟩) ?_
          simp only [Act.put, List.setIfInBounds_toArray, List.set_cons_zero, List.set_cons_succ]
          refine wpAnyK_takeTo 12 (some 24) (undef) [13, 14, 15, 16, 17, 18, 26, 27, 28] rfl rfl (by kernel_rfl) (by kernel_rfl) (by kernel_rfl) (by kernel_rfl) (fun _ _ _ h => h) hS (Or.inr ⟨rfl, rfl⟩) ?_
          simp only [Act.put, List.setIfInBounds_toArray, List.set_cons_zero, List.set_cons_succ]
          refine wpAnyK_takeTo 13 (some 25) (undef) [14, 15, 16, 17, 18, 26, 27, 28] rfl rfl (by kernel_rfl) (by kernel_rfl) (by kernel_rfl) (by kernel_rfl) (fun _ _ _ h => h) hS (Or.inr ⟨rfl, rfl⟩) ?_
          simp only [Act.put, List.setIfInBounds_toArray, List.set_cons_zero, List.set_cons_succ]
          refine wpAnyK_takeTo 14 (some 26) (undef) [15, 16, 17, 18, 26, 27, 28] rfl rfl (by kernel_rfl) (by kernel_rfl) (by kernel_rfl) (by kernel_rfl) (fun _ _ _ h => h) hS (Or.inr ⟨rfl, rfl⟩) ?_
          simp only [Act.put, List.setIfInBounds_toArray, List.set_cons_zero, List.set_cons_succ]
          refine wpAnyK_takeTo 15 (some 27) (undef) [16, 17, 18, 26, 27, 28] rfl rfl (by kernel_rfl) (by kernel_rfl) (by kernel_rfl) (by kernel_rfl) (fun _ _ _ h => h) hS (Or.inr ⟨rfl, rfl⟩) ?_
          simp only [Act.put, List.setIfInBounds_toArray, List.set_cons_zero, List.set_cons_succ]
          refine wpAnyK_takeTo 16 (some 28) (undef) [17, 18, 26, 27, 28] rfl rfl (by kernel_rfl) (by kernel_rfl) (by kernel_rfl) (by kernel_rfl) (fun _ _ _ h => h) hS (Or.inr ⟨rfl, rfl⟩) ?_
          simp only [Act.put, List.setIfInBounds_toArray, List.set_cons_zero, List.set_cons_succ]
          refine wpAnyK_takeTo 17 (some 29) (undef) [18, 26, 27, 28] rfl rfl (by kernel_rfl) (by kernel_rfl) (by kernel_rfl) (by kernel_rfl) (fun _ _ _ h => h) hS (Or.inr ⟨rfl, rfl⟩) ?_
          simp only [Act.put, List.setIfInBounds_toArray, List.set_cons_zero, List.set_cons_succ]
          refine wpAnyK_takeTo 18 (some 30) (undef) [26, 27, 28] rfl rfl (by kernel_rfl) (by kernel_rfl) (by kernel_rfl) (by kernel_rfl) (fun _ _ _ h => h) hS (Or.inr ⟨rfl, rfl⟩) ?_
          simp only [Act.put, List.setIfInBounds_toArray, List.set_cons_zero, List.set_cons_succ]
          refine wpAnyK_takeTo 19 (some 31) (undef) [20, 21, 22, 23, 24, 25, 26, 27, 28] rfl rfl (by kernel_rfl) (by kernel_rfl) (by kernel_rfl) (by kernel_rfl) (fun _ _ _ h => h) hS (Or.inr ⟨rfl, rfl⟩) ?_
          simp only [Act.put, List.setIfInBounds_toArray, List.set_cons_zero, List.set_cons_succ]
          refine wpAnyK_takeTo 20 (some 32) (undef) [21, 22, 23, 24, 25, 26, 27, 28] rfl rfl (by kernel_rfl) (by kernel_rfl) (by kernel_rfl) (by kernel_rfl) (fun _ _ _ h => h) hS (Or.inr ⟨rfl, rfl⟩) ?_
          simp only [Act.put, List.setIfInBounds_toArray, List.set_cons_zero, List.set_cons_succ]
          refine wpAnyK_takeTo 21 (some 33) (undef) [22, 23, 24, 25, 26, 27, 28] rfl rfl (by kernel_rfl) (by kernel_rfl) (by kernel_rfl) (by kernel_rfl) (fun _ _ _ h => h) hS (Or.inr ⟨rfl, rfl⟩) ?_
          simp only [Act.put, List.setIfInBounds_toArray, List.set_cons_zero, List.set_cons_succ]
          refine wpAnyK_takeTo 22 (some 34) (undef) [23, 24, 25, 26, 27, 28] rfl rfl (by kernel_rfl) (by kernel_rfl) (by kernel_rfl) (by kernel_rfl) (fun _ _ _ h => h) hS (Or.inr ⟨rfl, rfl⟩) ?_
          simp only [Act.put, List.setIfInBounds_toArray, List.set_cons_zero, List.set_cons_succ]
          refine wpAnyK_takeTo 23 (some 35) (undef) [24, 25, 26, 27, 28] rfl rfl (by kernel_rfl) (by kernel_rfl) (by kernel_rfl) (by kernel_rfl) (fun _ _ _ h => h) hS (Or.inr ⟨rfl, rfl⟩) ?_
          simp only [Act.put, List.setIfInBounds_toArray, List.set_cons_zero, List.set_cons_succ]
          refine wpAnyK_takeTo 24 (some 36) (undef) [25, 26, 27, 28] rfl rfl (by kernel_rfl) (by kernel_rfl) (by kernel_rfl) (by kernel_rfl) (fun _ _ _ h => h) hS (Or.inr ⟨rfl, rfl⟩) ?_
          simp only [Act.put, List.setIfInBounds_toArray, List.set_cons_zero, List.set_cons_succ]
          refine wpAnyK_takeTo 25 (some 37) (undef) [26, 27, 28] rfl rfl (by kernel_rfl) (by kernel_rfl) (by kernel_rfl) (by kernel_rfl) (fun _ _ _ h => h) hS (Or.inr ⟨rfl, rfl⟩) ?_
          simp only [Act.put, List.setIfInBounds_toArray, List.set_cons_zero, List.set_cons_succ]
          refine wpAnyK_takeTo 26 (some 38) (undef) [27, 28] rfl rfl (by kernel_rfl) (by kernel_rfl) (by kernel_rfl) (by kernel_rfl) (fun _ _ _ h => h) hS (Or.inr ⟨rfl, rfl⟩) ?_
          simp only [Act.put, List.setIfInBounds_toArray, List.set_cons_zero, List.set_cons_succ]
          refine wpAnyK_takeTo 27 (some 39) (undef) [28] rfl rfl (by kernel_rfl) (by kernel_rfl) (by kernel_rfl) (by kernel_rfl) (fun _ _ _ h => h) hS (Or.inr ⟨rfl, rfl⟩) ?_
          simp only [Act.put, List.setIfInBounds_toArray, List.set_cons_zero, List.set_cons_succ]
          refine wpAnyK_takeTo 28 (some 40) (.bool true) [] rfl rfl (by kernel_rfl) (by kernel_rfl) (by kernel_rfl) (by kernel_rfl) (fun _ _ _ h => h) hS (Or.inl ⟨rfl, fun w1 hw1 => by have hw1 : w1 = U := hw1; subst hw1; go_simp⟩) ?_
          simp only [Act.put, List.setIfInBounds_toArray, List.set_cons_zero, List.set_cons_succ]
          refine wpAnyK_done (by kernel_rfl) ?_ _
          clear hS
          have HQ : Hid (∀ z ∈ PT.nil.pts ++ (PT.node b fb lb rb).pts, ¬ aboveP z b) := hide (top_one (t := t0) (f := f) HOK.out.2.2.2.2)
          obtain ⟨U7, hU7⟩ : ∃ U7, U7 = U.setCell ⟨g, 8, none⟩ (.int .i64 (M : Int)) := ⟨_, rfl⟩
          have HB7 : Hid (BS w base g t0 f none (some ⟨gb, 0, none⟩) M PT.nil (PT.node b fb lb rb) Sl Sr U7) := hide (by rw [hU7]; exact HB1.out.set (Fr.setCell U ⟨g, 8, none⟩ _) (HB1.out.no.size M) HD.out.1 HD.out.2.1)
          obtain ⟨U8, hU8⟩ : ∃ U8, U8 = ((U7.setCell ⟨g, 0, none⟩ (.int .i64 b.x)).setCell ⟨g, 1, none⟩ (.int .i64 b.y)).setCell ⟨g, 2, none⟩ (.int .i64 b.id) := ⟨_, rfl⟩
          have HB8 : Hid (BS w base g b f none (some ⟨gb, 0, none⟩) M PT.nil (PT.node b fb lb rb) Sl Sr U8) := hide (by rw [hU8]; exact HB7.out.set (Fr.set3 U7 g 0 1 2 _ _ _) (HB7.out.no.top b) HD.out.1 HD.out.2.1)
          obtain ⟨c0, c1, c2, c3, c4, c5, c6, c7, c8⟩ := HB1.out.no.c
          have z8 := HB1.out.no.frozen 8
          obtain ⟨d0, d1, d2, d3, d4, d5, d6, d7, d8⟩ := HB7.out.no.c
          have z0 := HB7.out.no.frozen 0
          have z1 := HB7.out.no.frozen 1
          have z2 := HB7.out.no.frozen 2
          have hchild : PtAt U7 gb 0 b := by
            obtain ⟨gq', _, _, _, _, hgq', _, hNq, _⟩ := HB7.out.tr
            cases hgq'
            exact hNq.c.pt
          obtain ⟨x1, x2, x3⟩ := hchild
          obtain ⟨b0, b1, b2, b3, b4, b5, b6, b7, b8⟩ := HB8.out.no.c
          have HIB := hide (HIR.out U8 base _ Sr HB8.out.tr HOK.out.2.2.2.2 (List.Pairwise.sublist (List.sublist_append_right _ _) (List.pairwise_cons.1 HID.out).2) (by have := HSZ.out; omega) (Nat.le_trans HB.out HB8.out.fr.size) b fb lb rb rfl)
          have HU7 := hide hU7
          have HU8 := hide hU8
          clear hU7 hU8
          go_wp2_with (first | rw [← HU7.out] | rw [← HU8.out])
          refine HIB.out.mono ?_
          rintro e U9 ⟨t1, v1, S1, rfl, ht1, hok1, hp1, hS1, hf1⟩
          obtain ⟨na, rfl⟩ := ht1.ptr
          have hgS : ¬ Sr g := HD.out.2.1
          have h9n := HB8.out.no.fr hf1 hgS
          obtain ⟨e0, e1, e2, e3, e4, e5, e6, e7, e8⟩ := h9n.c
          have zz := h9n.frozen 7
          have HFI := hide (BS.fin (t0 := t0) (n := nn) false (by have h8 := HB8.out; rw [HNN.out.2] at h8; exact h8) HS0.out HD.out HG.out HLL.out HRR.out HOK.out HID.out HSZ.out HNN.out.1 HB.out HQ.out ht1 hok1 (by simpa using hp1) (by simpa using hS1) (by simpa using hf1))
          simp only [if_true, Bool.false_eq_true, if_false] at HFI
          clear c0 c1 c2 c3 c4 c5 c6 c7 c8 z8 d0 d1 d2 d3 d4 d5 d6 d7 d8 z0 z1 z2 x1 x2 x3 b0 b1 b2 b3 b4 b5 b6 b7 b8 HU7 HU8 ht1 hok1 hp1 hS1 hf1 h9n HIB HB7 HB8 HB1
          go_wp2_with fail
          refine HFI.out.mono ?_
          rintro e U12 hres
          obtain ⟨_, v12, _, rfl, _⟩ := id hres
          have HRES := hide hres
          clear hres HFI e0 e1 e2 e3 e4 e5 e6 e7 e8 zz
          go_wp2
          go_ret
          exact HRES.out
      | node a fa la' ra' =>
        obtain ⟨ga, lv', rv', Sa', Sb', hla, _, hNa', _⟩ := id hl
        cases hla
        cases r with
        | nil =>
          obtain ⟨hra, _⟩ := hr
          cases hra
          go_enter Tryz.func37, Tryz.ntmps37
          obtain ⟨c0, c1, c2, c3, c4, c5, c6, c7, c8⟩ := HB0.out.no.c
          go_wp2_with fail
          have HB1 := hide (HB0.out.same (Fr.drew w (fun _ => False)))
          refine wp_region_K (fun _ => true) (fun U : World => U = w.drew) (by kernel_rfl) ?_
          clear c0 c1 c2 c3 c4 c5 c6 c7 c8 HB0
          generalize w.drew = U at *
          have hS : (fun V : World => V = U) U := rfl
          obtain ⟨c0, c1, c2, c3, c4, c5, c6, c7, c8⟩ := HB1.out.no.c
          refine wpAnyK_takeTo 0 (some 12) (.pointer (some ⟨g, 0, none⟩)) [1, 2, 3, 4, 5, 6, 7, 8, 9, 10, 11, 12, 13, 14, 15, 16, 17, 18, 19, 20, 21, 22, 23, 24, 25, 26, 27, 28] rfl rfl (by kernel_rfl) (by kernel_rfl) (by kernel_rfl) (by kernel_rfl) (fun _ _ _ h => h) hS (Or.inl ⟨rfl, fun w1 hw1 => by have hw1 : w1 = U := hw1; subst hw1; go_simp⟩) ?_
          simp only [Act.put, List.setIfInBounds_toArray, List.set_cons_zero, List.set_cons_succ]
          refine wpAnyK_takeTo 1 (some 13) (.pointer (some ⟨g, 0, none⟩)) [2, 3, 4, 5, 6, 7, 8, 9, 10, 11, 12, 13, 14, 15, 16, 17, 18, 19, 20, 21, 22, 23, 24, 25, 26, 27, 28] rfl rfl (by kernel_rfl) (by kernel_rfl) (by kernel_rfl) (by kernel_rfl) (fun _ _ _ h => h) hS (Or.inl ⟨rfl, fun w1 hw1 => by have hw1 : w1 = U := hw1; subst hw1; go_simp⟩) ?_
          simp only [Act.put, List.setIfInBounds_toArray, List.set_cons_zero, List.set_cons_succ]
          refine wpAnyK_takeTo 2 (some 14) (.pointer (some ⟨g, 6, none⟩)) [3, 4, 5, 6, 7, 8, 9, 10, 11, 12, 13, 14, 15, 16, 17, 18, 19, 20, 21, 22, 23, 24, 25, 26, 27, 28] rfl rfl (by kernel_rfl) (by kernel_rfl) (by kernel_rfl) (by kernel_rfl) (fun _ _ _ h => h) hS (Or.inl ⟨rfl, fun w1 hw1 => by have hw1 : w1 = U := hw1; subst hw1; go_simp⟩) ?_
          simp only [Act.put, List.setIfInBounds_toArray, List.set_cons_zero, List.set_cons_succ]
          refine wpAnyK_takeTo 3 (some 15) (.pointer (some ⟨ga, 0, none⟩)) [4, 5, 6, 7, 8, 9, 10, 11, 12, 13, 14, 15, 16, 17, 18, 19, 20, 21, 22, 23, 24, 25, 26, 27, 28] rfl rfl (by kernel_rfl) (by kernel_rfl) (by kernel_rfl) (by kernel_rfl) (fun _ _ _ h => h) hS (Or.inl ⟨rfl, fun w1 hw1 => by have hw1 : w1 = U := hw1; subst hw1; go_simp⟩) ?_
          simp only [Act.put, List.setIfInBounds_toArray, List.set_cons_zero, List.set_cons_succ]
          refine wpAnyK_takeTo 4 (some 16) (.bool false) [5, 6, 7, 8, 9, 10, 11, 12, 13, 14, 15, 16, 17, 18, 19, 20, 21, 22, 23, 24, 25, 26, 27, 28] rfl rfl (by kernel_rfl) (by kernel_rfl) (by kernel_rfl) (by kernel_rfl) (fun _ _ _ h => h) hS (Or.inl ⟨rfl, fun w1 hw1 => by have hw1 : w1 = U := hw1; subst hw1; go_simp⟩) ?_
          simp only [Act.put, List.setIfInBounds_toArray, List.set_cons_zero, List.set_cons_succ]
          refine wpAnyK_takeTo 5 (some 17) (.bool false) [6, 7, 8, 9, 10, 11, 12, 13, 14, 15, 16, 17, 18, 19, 20, 21, 22, 23, 24, 25, 26, 27, 28] rfl rfl (by kernel_rfl) (by kernel_rfl) (by kernel_rfl) (by kernel_rfl) (fun _ _ _ h => h) hS (Or.inl ⟨rfl, fun w1 hw1 => by have hw1 : w1 = U := hw1; subst hw1; go_simp⟩) ?_
          simp only [Act.put, List.setIfInBounds_toArray, List.set_cons_zero, List.set_cons_succ]
          refine wpAnyK_takeTo 6 (some 18) (.pointer (some ⟨g, 0, none⟩)) [7, 8, 9, 10, 11, 12, 13, 14, 15, 16, 17, 18, 19, 20, 21, 22, 23, 24, 25, 26, 27, 28] rfl rfl (by kernel_rfl) (by kernel_rfl) (by kernel_rfl) (by kernel_rfl) (fun _ _ _ h => h) hS (Or.inl ⟨rfl, fun w1 hw1 => by have hw1 : w1 = U := hw1; subst hw1; go_simp⟩) ?_
          simp only [Act.put, List.setIfInBounds_toArray, List.set_cons_zero, List.set_cons_succ]
          refine wpAnyK_takeTo 7 (some 19) (.pointer (some ⟨g, 0, none⟩)) [8, 9, 10, 11, 12, 13, 14, 15, 16, 17, 18, 19, 20, 21, 22, 23, 24, 25, 26, 27, 28] rfl rfl (by kernel_rfl) (by kernel_rfl) (by kernel_rfl) (by kernel_rfl) (fun _ _ _ h => h) hS (Or.inl ⟨rfl, fun w1 hw1 => by have hw1 : w1 = U := hw1; subst hw1; go_simp⟩) ?_
          simp only [Act.put, List.setIfInBounds_toArray, List.set_cons_zero, List.set_cons_succ]
          refine wpAnyK_takeTo 8 (some 20) (.pointer (some ⟨g, 7, none⟩)) [9, 10, 11, 12, 13, 14, 15, 16, 17, 18, 19, 20, 21, 22, 23, 24, 25, 26, 27, 28] rfl rfl (by kernel_rfl) (by kernel_rfl) (by kernel_rfl) (by kernel_rfl) (fun _ _ _ h => h) hS (Or.inl ⟨rfl, fun w1 hw1 => by have hw1 : w1 = U := hw1; subst hw1; go_simp⟩) ?_
          simp only [Act.put, List.setIfInBounds_toArray, List.set_cons_zero, List.set_cons_succ]
          refine wpAnyK_takeTo 9 (some 21) (.pointer none) [10, 11, 12, 13, 14, 15, 16, 17, 18, 19, 20, 21, 22, 23, 24, 25, 26, 27, 28] rfl rfl (by kernel_rfl) (by kernel_rfl) (by kernel_rfl) (by kernel_rfl) (fun _ _ _ h => h) hS (Or.inl ⟨rfl, fun w1 hw1 => by have hw1 : w1 = U := hw1; subst hw1; go_simp⟩) ?_
          simp only [Act.put, List.setIfInBounds_toArray, List.set_cons_zero, List.set_cons_succ]
          refine wpAnyK_takeTo 10 (some 22) (.bool false) [11, 12, 13, 14, 15, 16, 17, 18, 19, 20, 21, 22, 23, 24, 25, 26, 27, 28] rfl rfl (by kernel_rfl) (by kernel_rfl) (by kernel_rfl) (by kernel_rfl) (fun _ _ _ h => h) hS (Or.inl ⟨rfl, fun w1 hw1 => by have hw1 : w1 = U := hw1; subst hw1; go_simp⟩) ?_
          simp only [Act.put, List.setIfInBounds_toArray, List.set_cons_zero, List.set_cons_succ]
          refine wpAnyK_takeTo 11 (some 23) (.bool false) [12, 13, 14, 15, 16, 17, 18, 19, 20, 21, 22, 23, 24, 25, 26, 27, 28] rfl rfl (by kernel_rfl) (by kernel_rfl) (by kernel_rfl) (by kernel_rfl) (fun _ _ _ h => h) hS (Or.inl ⟨rfl, fun w1 hw1 => by have hw1 : w1 = U := hw1; subst hw1; go_simp⟩) ?_
          simp only [Act.put, List.setIfInBounds_toArray, List.set_cons_zero, List.set_cons_succ]
          refine wpAnyK_takeTo 12 (some 24) (undef) [13, 14, 15, 16, 17, 18, 26, 27, 28] rfl rfl (by kernel_rfl) (by kernel_rfl) (by kernel_rfl) (by kernel_rfl) (fun _ _ _ h => h) hS (Or.inr ⟨rfl, rfl⟩) ?_
          simp only [Act.put, List.setIfInBounds_toArray, List.set_cons_zero, List.set_cons_succ]
          refine wpAnyK_takeTo 13 (some 25) (undef) [14, 15, 16, 17, 18, 26, 27, 28] rfl rfl (by kernel_rfl) (by kernel_rfl) (by kernel_rfl) (by kernel_rfl) (fun _ _ _ h => h) hS (Or.inr ⟨rfl, rfl⟩) ?_
          simp only [Act.put, List.setIfInBounds_toArray, List.set_cons_zero, List.set_cons_succ]
          refine wpAnyK_takeTo 14 (some 26) (undef) [15, 16, 17, 18, 26, 27, 28] rfl rfl (by kernel_rfl) (by kernel_rfl) (by kernel_rfl) (by kernel_rfl) (fun _ _ _ h => h) hS (Or.inr ⟨rfl, rfl⟩) ?_
          simp only [Act.put, List.setIfInBounds_toArray, List.set_cons_zero, List.set_cons_succ]
          refine wpAnyK_takeTo 15 (some 27) (undef) [16, 17, 18, 26, 27, 28] rfl rfl (by kernel_rfl) (by kernel_rfl) (by kernel_rfl) (by kernel_rfl) (fun _ _ _ h => h) hS (Or.inr ⟨rfl, rfl⟩) ?_
          simp only [Act.put, List.setIfInBounds_toArray, List.set_cons_zero, List.set_cons_succ]
          refine wpAnyK_takeTo 16 (some 28) (undef) [17, 18, 26, 27, 28] rfl rfl (by kernel_rfl) (by kernel_rfl) (by kernel_rfl) (by kernel_rfl) (fun _ _ _ h => h) hS (Or.inr ⟨rfl, rfl⟩) ?_
          simp only [Act.put, List.setIfInBounds_toArray, List.set_cons_zero, List.set_cons_succ]
          refine wpAnyK_takeTo 17 (some 29) (undef) [18, 26, 27, 28] rfl rfl (by kernel_rfl) (by kernel_rfl) (by kernel_rfl) (by kernel_rfl) (fun _ _ _ h => h) hS (Or.inr ⟨rfl, rfl⟩) ?_
          simp only [Act.put, List.setIfInBounds_toArray, List.set_cons_zero, List.set_cons_succ]
          refine wpAnyK_takeTo 18 (some 30) (undef) [26, 27, 28] rfl rfl (by kernel_rfl) (by kernel_rfl) (by kernel_rfl) (by kernel_rfl) (fun _ _ _ h => h) hS (Or.inr ⟨rfl, rfl⟩) ?_
          simp only [Act.put, List.setIfInBounds_toArray, List.set_cons_zero, List.set_cons_succ]
          refine wpAnyK_takeTo 19 (some 31) (undef) [20, 21, 22, 23, 24, 25, 26, 27, 28] rfl rfl (by kernel_rfl) (by kernel_rfl) (by kernel_rfl) (by kernel_rfl) (fun _ _ _ h => h) hS (Or.inr ⟨rfl, rfl⟩) ?_
          simp only [Act.put, List.setIfInBounds_toArray, List.set_cons_zero, List.set_cons_succ]
          refine wpAnyK_takeTo 20 (some 32) (undef) [21, 22, 23, 24, 25, 26, 27, 28] rfl rfl (by kernel_rfl) (by kernel_rfl) (by kernel_rfl) (by kernel_rfl) (fun _ _ _ h => h) hS (Or.inr ⟨rfl, rfl⟩) ?_
          simp only [Act.put, List.setIfInBounds_toArray, List.set_cons_zero, List.set_cons_succ]
          refine wpAnyK_takeTo 21 (some 33) (undef) [22, 23, 24, 25, 26, 27, 28] rfl rfl (by kernel_rfl) (by kernel_rfl) (by kernel_rfl) (by kernel_rfl) (fun _ _ _ h => h) hS (Or.inr ⟨rfl, rfl⟩) ?_
          simp only [Act.put, List.setIfInBounds_toArray, List.set_cons_zero, List.set_cons_succ]
          refine wpAnyK_takeTo 22 (some 34) (undef) [23, 24, 25, 26, 27, 28] rfl rfl (by kernel_rfl) (by kernel_rfl) (by kernel_rfl) (by kernel_rfl) (fun _ _ _ h => h) hS (Or.inr ⟨rfl, rfl⟩) ?_
          simp only [Act.put, List.setIfInBounds_toArray, List.set_cons_zero, List.set_cons_succ]
          refine wpAnyK_takeTo 23 (some 35) (undef) [24, 25, 26, 27, 28] rfl rfl (by kernel_rfl) (by kernel_rfl) (by kernel_rfl) (by kernel_rfl) (fun _ _ _ h => h) hS (Or.inr ⟨rfl, rfl⟩) ?_
          simp only [Act.put, List.setIfInBounds_toArray, List.set_cons_zero, List.set_cons_succ]
          refine wpAnyK_takeTo 24 (some 36) (undef) [25, 26, 27, 28] rfl rfl (by kernel_rfl) (by kernel_rfl) (by kernel_rfl) (by kernel_rfl) (fun _ _ _ h => h) hS (Or.inr ⟨rfl, rfl⟩) ?_
          simp only [Act.put, List.setIfInBounds_toArray, List.set_cons_zero, List.set_cons_succ]
          refine wpAnyK_takeTo 25 (some 37) (undef) [26, 27, 28] rfl rfl (by kernel_rfl) (by kernel_rfl) (by kernel_rfl) (by kernel_rfl) (fun _ _ _ h => h) hS (Or.inr ⟨rfl, rfl⟩) ?_
          simp only [Act.put, List.setIfInBounds_toArray, List.set_cons_zero, List.set_cons_succ]
          refine wpAnyK_takeTo 26 (some 38) (undef) [27, 28] rfl rfl (by kernel_rfl) (by kernel_rfl) (by kernel_rfl) (by kernel_rfl) (fun _ _ _ h => h) hS (Or.inr ⟨rfl, rfl⟩) ?_
          simp only [Act.put, List.setIfInBounds_toArray, List.set_cons_zero, List.set_cons_succ]
          refine wpAnyK_takeTo 27 (some 39) (.bool false) [28] rfl rfl (by kernel_rfl) (by kernel_rfl) (by kernel_rfl) (by kernel_rfl) (fun _ _ _ h => h) hS (Or.inl ⟨rfl, fun w1 hw1 => by have hw1 : w1 = U := hw1; subst hw1; go_simp⟩) ?_
          simp only [Act.put, List.setIfInBounds_toArray, List.set_cons_zero, List.set_cons_succ]
          refine wpAnyK_takeTo 28 (some 40) (.bool false) [] rfl rfl (by kernel_rfl) (by kernel_rfl) (by kernel_rfl) (by kernel_rfl) (fun _ _ _ h => h) hS (Or.inl ⟨rfl, fun w1 hw1 => by have hw1 : w1 = U := hw1; subst hw1; go_simp⟩) ?_
          simp only [Act.put, List.setIfInBounds_toArray, List.set_cons_zero, List.set_cons_succ]
          refine wpAnyK_done (by kernel_rfl) ?_ _
          clear hS
          have HQ : Hid (∀ z ∈ (PT.node a fa la' ra').pts ++ PT.nil.pts, ¬ aboveP z a) := hide (by rw [show PT.nil.pts = [] from rfl, List.append_nil]; exact top_one (t := t0) (f := f) HOK.out.2.2.2.1)
          obtain ⟨U7, hU7⟩ : ∃ U7, U7 = U.setCell ⟨g, 8, none⟩ (.int .i64 (M : Int)) := ⟨_, rfl⟩
          have HB7 : Hid (BS w base g t0 f (some ⟨ga, 0, none⟩) none M (PT.node a fa la' ra') PT.nil Sl Sr U7) := hide (by rw [hU7]; exact HB1.out.set (Fr.setCell U ⟨g, 8, none⟩ _) (HB1.out.no.size M) HD.out.1 HD.out.2.1)
          obtain ⟨U8, hU8⟩ : ∃ U8, U8 = ((U7.setCell ⟨g, 0, none⟩ (.int .i64 a.x)).setCell ⟨g, 1, none⟩ (.int .i64 a.y)).setCell ⟨g, 2, none⟩ (.int .i64 a.id) := ⟨_, rfl⟩
          have HB8 : Hid (BS w base g a f (some ⟨ga, 0, none⟩) none M (PT.node a fa la' ra') PT.nil Sl Sr U8) := hide (by rw [hU8]; exact HB7.out.set (Fr.set3 U7 g 0 1 2 _ _ _) (HB7.out.no.top a) HD.out.1 HD.out.2.1)
          obtain ⟨c0, c1, c2, c3, c4, c5, c6, c7, c8⟩ := HB1.out.no.c
          have z8 := HB1.out.no.frozen 8
          obtain ⟨d0, d1, d2, d3, d4, d5, d6, d7, d8⟩ := HB7.out.no.c
          have z0 := HB7.out.no.frozen 0
          have z1 := HB7.out.no.frozen 1
          have z2 := HB7.out.no.frozen 2
          have hchild : PtAt U7 ga 0 a := by
            obtain ⟨gq', _, _, _, _, hgq', _, hNq, _⟩ := HB7.out.tl
            cases hgq'
            exact hNq.c.pt
          obtain ⟨x1, x2, x3⟩ := hchild
          obtain ⟨b0, b1, b2, b3, b4, b5, b6, b7, b8⟩ := HB8.out.no.c
          have HIB := hide (HIL.out U8 base _ Sl HB8.out.tl HOK.out.2.2.2.1 (List.Pairwise.sublist (List.sublist_append_left _ _) (List.pairwise_cons.1 HID.out).2) (by have := HSZ.out; omega) (Nat.le_trans HB.out HB8.out.fr.size) a fa la' ra' rfl)
          have HU7 := hide hU7
          have HU8 := hide hU8
          clear hU7 hU8
          go_wp2_with (first | rw [← HU7.out] | rw [← HU8.out])
          refine HIB.out.mono ?_
          rintro e U9 ⟨t1, v1, S1, rfl, ht1, hok1, hp1, hS1, hf1⟩
          obtain ⟨na, rfl⟩ := ht1.ptr
          have hgS : ¬ Sl g := HD.out.1
          have h9n := HB8.out.no.fr hf1 hgS
          obtain ⟨e0, e1, e2, e3, e4, e5, e6, e7, e8⟩ := h9n.c
          have zz := h9n.frozen 6
          have HFI := hide (BS.fin (t0 := t0) (n := nn) true (by have h8 := HB8.out; rw [HNN.out.2] at h8; exact h8) HS0.out HD.out HG.out HLL.out HRR.out HOK.out HID.out HSZ.out HNN.out.1 HB.out HQ.out ht1 hok1 (by simpa using hp1) (by simpa using hS1) (by simpa using hf1))
          simp only [if_true, Bool.false_eq_true, if_false] at HFI
          clear c0 c1 c2 c3 c4 c5 c6 c7 c8 z8 d0 d1 d2 d3 d4 d5 d6 d7 d8 z0 z1 z2 x1 x2 x3 b0 b1 b2 b3 b4 b5 b6 b7 b8 HU7 HU8 ht1 hok1 hp1 hS1 hf1 h9n HIB HB7 HB8 HB1
          go_wp2_with fail
          refine HFI.out.mono ?_
          rintro e U12 hres
          obtain ⟨_, v12, _, rfl, _⟩ := id hres
          have HRES := hide hres
          clear hres HFI e0 e1 e2 e3 e4 e5 e6 e7 e8 zz
          go_wp2
          go_ret
          exact HRES.out
        | node b fb lb rb =>
          obtain ⟨gb, lw', rw', Sc', Sd', hra, _, hNb', _⟩ := id hr
          cases hra
          have HAB := hide (fun U => above_any b a U)
          generalize hab : decide (aboveP b a) = x at HAB
          unfold Pt.agg at HAB
          go_enter Tryz.func37, Tryz.ntmps37
          obtain ⟨c0, c1, c2, c3, c4, c5, c6, c7, c8⟩ := HB0.out.no.c
          go_wp2_with fail
          have HB1 := hide (HB0.out.same (Fr.drew w (fun _ => False)))
          refine wp_region_K (fun z => decide (z < 26)) (fun U : World => U = w.drew) (by kernel_rfl) ?_
          clear c0 c1 c2 c3 c4 c5 c6 c7 c8 HB0
          generalize w.drew = U at *
          have hS : (fun V : World => V = U) U := rfl
          obtain ⟨c0, c1, c2, c3, c4, c5, c6, c7, c8⟩ := HB1.out.no.c
          have pa : PtAt U ga 0 a := by
            obtain ⟨gq', _, _, _, _, hgq', _, hNq, _⟩ := HB1.out.tl
            cases hgq'
            exact hNq.c.pt
          have pb : PtAt U gb 0 b := by
            obtain ⟨gq', _, _, _, _, hgq', _, hNq, _⟩ := HB1.out.tr
            cases hgq'
            exact hNq.c.pt
          obtain ⟨a0, a1, a2⟩ := pa
          obtain ⟨k0, k1, k2⟩ := pb
          refine wpAnyK_takeTo 0 (some 12) (.pointer (some ⟨g, 0, none⟩)) [1, 2, 3, 4, 5, 6, 7, 8, 9, 10, 11, 12, 13, 14, 15, 16, 17, 18, 19, 20, 21, 22, 23, 24, 25, 26, 27, 28] rfl rfl (by kernel_rfl) (by kernel_rfl) (by kernel_rfl) (by kernel_rfl) (fun _ _ _ h => h) hS (Or.inl ⟨rfl, fun w1 hw1 => by have hw1 : w1 = U := hw1; subst hw1; go_simp⟩) ?_
          simp only [Act.put, List.setIfInBounds_toArray, List.set_cons_zero, List.set_cons_succ]
          refine wpAnyK_takeTo 1 (some 13) (.pointer (some ⟨g, 0, none⟩)) [2, 3, 4, 5, 6, 7, 8, 9, 10, 11, 12, 13, 14, 15, 16, 17, 18, 19, 20, 21, 22, 23, 24, 25, 26, 27, 28] rfl rfl (by kernel_rfl) (by kernel_rfl) (by kernel_rfl) (by kernel_rfl) (fun _ _ _ h => h) hS (Or.inl ⟨rfl, fun w1 hw1 => by have hw1 : w1 = U := hw1; subst hw1; go_simp⟩) ?_
          simp only [Act.put, List.setIfInBounds_toArray, List.set_cons_zero, List.set_cons_succ]
          refine wpAnyK_takeTo 2 (some 14) (.pointer (some ⟨g, 6, none⟩)) [3, 4, 5, 6, 7, 8, 9, 10, 11, 12, 13, 14, 15, 16, 17, 18, 19, 20, 21, 22, 23, 24, 25, 26, 27, 28] rfl rfl (by kernel_rfl) (by kernel_rfl) (by kernel_rfl) (by kernel_rfl) (fun _ _ _ h => h) hS (Or.inl ⟨rfl, fun w1 hw1 => by have hw1 : w1 = U := hw1; subst hw1; go_simp⟩) ?_
          simp only [Act.put, List.setIfInBounds_toArray, List.set_cons_zero, List.set_cons_succ]
          refine wpAnyK_takeTo 3 (some 15) (.pointer (some ⟨ga, 0, none⟩)) [4, 5, 6, 7, 8, 9, 10, 11, 12, 13, 14, 15, 16, 17, 18, 19, 20, 21, 22, 23, 24, 25, 26, 27, 28] rfl rfl (by kernel_rfl) (by kernel_rfl) (by kernel_rfl) (by kernel_rfl) (fun _ _ _ h => h) hS (Or.inl ⟨rfl, fun w1 hw1 => by have hw1 : w1 = U := hw1; subst hw1; go_simp⟩) ?_
          simp only [Act.put, List.setIfInBounds_toArray, List.set_cons_zero, List.set_cons_succ]
          refine wpAnyK_takeTo 4 (some 16) (.bool false) [5, 6, 7, 8, 9, 10, 11, 12, 13, 14, 15, 16, 17, 18, 19, 20, 21, 22, 23, 24, 25, 26, 27, 28] rfl rfl (by kernel_rfl) (by kernel_rfl) (by kernel_rfl) (by kernel_rfl) (fun _ _ _ h => h) hS (Or.inl ⟨rfl, fun w1 hw1 => by have hw1 : w1 = U := hw1; subst hw1; go_simp⟩) ?_
          simp only [Act.put, List.setIfInBounds_toArray, List.set_cons_zero, List.set_cons_succ]
          refine wpAnyK_takeTo 5 (some 17) (.bool false) [6, 7, 8, 9, 10, 11, 12, 13, 14, 15, 16, 17, 18, 19, 20, 21, 22, 23, 24, 25, 26, 27, 28] rfl rfl (by kernel_rfl) (by kernel_rfl) (by kernel_rfl) (by kernel_rfl) (fun _ _ _ h => h) hS (Or.inl ⟨rfl, fun w1 hw1 => by have hw1 : w1 = U := hw1; subst hw1; go_simp⟩) ?_
          simp only [Act.put, List.setIfInBounds_toArray, List.set_cons_zero, List.set_cons_succ]
          refine wpAnyK_takeTo 6 (some 18) (.pointer (some ⟨g, 0, none⟩)) [7, 8, 9, 10, 11, 12, 13, 14, 15, 16, 17, 18, 19, 20, 21, 22, 23, 24, 25, 26, 27, 28] rfl rfl (by kernel_rfl) (by kernel_rfl) (by kernel_rfl) (by kernel_rfl) (fun _ _ _ h => h) hS (Or.inl ⟨rfl, fun w1 hw1 => by have hw1 : w1 = U := hw1; subst hw1; go_simp⟩) ?_
          simp only [Act.put, List.setIfInBounds_toArray, List.set_cons_zero, List.set_cons_succ]
          refine wpAnyK_takeTo 7 (some 19) (.pointer (some ⟨g, 0, none⟩)) [8, 9, 10, 11, 12, 13, 14, 15, 16, 17, 18, 19, 20, 21, 22, 23, 24, 25, 26, 27, 28] rfl rfl (by kernel_rfl) (by kernel_rfl) (by kernel_rfl) (by kernel_rfl) (fun _ _ _ h => h) hS (Or.inl ⟨rfl, fun w1 hw1 => by have hw1 : w1 = U := hw1; subst hw1; go_simp⟩) ?_
          simp only [Act.put, List.setIfInBounds_toArray, List.set_cons_zero, List.set_cons_succ]
          refine wpAnyK_takeTo 8 (some 20) (.pointer (some ⟨g, 7, none⟩)) [9, 10, 11, 12, 13, 14, 15, 16, 17, 18, 19, 20, 21, 22, 23, 24, 25, 26, 27, 28] rfl rfl (by kernel_rfl) (by kernel_rfl) (by kernel_rfl) (by kernel_rfl) (fun _ _ _ h => h) hS (Or.inl ⟨rfl, fun w1 hw1 => by have hw1 : w1 = U := hw1; subst hw1; go_simp⟩) ?_
          simp only [Act.put, List.setIfInBounds_toArray, List.set_cons_zero, List.set_cons_succ]
          refine wpAnyK_takeTo 9 (some 21) (.pointer (some ⟨gb, 0, none⟩)) [10, 11, 12, 13, 14, 15, 16, 17, 18, 19, 20, 21, 22, 23, 24, 25, 26, 27, 28] rfl rfl (by kernel_rfl) (by kernel_rfl) (by kernel_rfl) (by kernel_rfl) (fun _ _ _ h => h) hS (Or.inl ⟨rfl, fun w1 hw1 => by have hw1 : w1 = U := hw1; subst hw1; go_simp⟩) ?_
          simp only [Act.put, List.setIfInBounds_toArray, List.set_cons_zero, List.set_cons_succ]
          refine wpAnyK_takeTo 10 (some 22) (.bool true) [11, 12, 13, 14, 15, 16, 17, 18, 19, 20, 21, 22, 23, 24, 25, 26, 27, 28] rfl rfl (by kernel_rfl) (by kernel_rfl) (by kernel_rfl) (by kernel_rfl) (fun _ _ _ h => h) hS (Or.inl ⟨rfl, fun w1 hw1 => by have hw1 : w1 = U := hw1; subst hw1; go_simp⟩) ?_
          simp only [Act.put, List.setIfInBounds_toArray, List.set_cons_zero, List.set_cons_succ]
          refine wpAnyK_takeTo 11 (some 23) (.bool true) [12, 13, 14, 15, 16, 17, 18, 19, 20, 21, 22, 23, 24, 25, 26, 27, 28] rfl rfl (by kernel_rfl) (by kernel_rfl) (by kernel_rfl) (by kernel_rfl) (fun _ _ _ h => h) hS (Or.inl ⟨rfl, fun w1 hw1 => by have hw1 : w1 = U := hw1; subst hw1; go_simp⟩) ?_
          simp only [Act.put, List.setIfInBounds_toArray, List.set_cons_zero, List.set_cons_succ]
          refine wpAnyK_takeTo 12 (some 24) (.pointer (some ⟨g, 0, none⟩)) [13, 14, 15, 16, 17, 18, 26, 27, 28] rfl rfl (by kernel_rfl) (by kernel_rfl) (by kernel_rfl) (by kernel_rfl) (fun _ _ _ h => h) hS (Or.inl ⟨rfl, fun w1 hw1 => by have hw1 : w1 = U := hw1; subst hw1; go_simp⟩) ?_
          simp only [Act.put, List.setIfInBounds_toArray, List.set_cons_zero, List.set_cons_succ]
          refine wpAnyK_takeTo 13 (some 25) (.pointer (some ⟨g, 0, none⟩)) [14, 15, 16, 17, 18, 26, 27, 28] rfl rfl (by kernel_rfl) (by kernel_rfl) (by kernel_rfl) (by kernel_rfl) (fun _ _ _ h => h) hS (Or.inl ⟨rfl, fun w1 hw1 => by have hw1 : w1 = U := hw1; subst hw1; go_simp⟩) ?_
          simp only [Act.put, List.setIfInBounds_toArray, List.set_cons_zero, List.set_cons_succ]
          refine wpAnyK_takeTo 14 (some 26) (.pointer (some ⟨g, 7, none⟩)) [15, 16, 17, 18, 26, 27, 28] rfl rfl (by kernel_rfl) (by kernel_rfl) (by kernel_rfl) (by kernel_rfl) (fun _ _ _ h => h) hS (Or.inl ⟨rfl, fun w1 hw1 => by have hw1 : w1 = U := hw1; subst hw1; go_simp⟩) ?_
          simp only [Act.put, List.setIfInBounds_toArray, List.set_cons_zero, List.set_cons_succ]
          refine wpAnyK_takeTo 15 (some 27) (.pointer (some ⟨gb, 0, none⟩)) [16, 17, 18, 26, 27, 28] rfl rfl (by kernel_rfl) (by kernel_rfl) (by kernel_rfl) (by kernel_rfl) (fun _ _ _ h => h) hS (Or.inl ⟨rfl, fun w1 hw1 => by have hw1 : w1 = U := hw1; subst hw1; go_simp⟩) ?_
          simp only [Act.put, List.setIfInBounds_toArray, List.set_cons_zero, List.set_cons_succ]
          refine wpAnyK_takeTo 16 (some 28) (.pointer (some ⟨gb, 0, none⟩)) [17, 18, 26, 27, 28] rfl rfl (by kernel_rfl) (by kernel_rfl) (by kernel_rfl) (by kernel_rfl) (fun _ _ _ h => h) hS (Or.inl ⟨rfl, fun w1 hw1 => by have hw1 : w1 = U := hw1; subst hw1; go_simp⟩) ?_
          simp only [Act.put, List.setIfInBounds_toArray, List.set_cons_zero, List.set_cons_succ]
          refine wpAnyK_takeTo 17 (some 29) (.pointer (some ⟨gb, 0, none⟩)) [18, 26, 27, 28] rfl rfl (by kernel_rfl) (by kernel_rfl) (by kernel_rfl) (by kernel_rfl) (fun _ _ _ h => h) hS (Or.inl ⟨rfl, fun w1 hw1 => by have hw1 : w1 = U := hw1; subst hw1; go_simp⟩) ?_
          simp only [Act.put, List.setIfInBounds_toArray, List.set_cons_zero, List.set_cons_succ]
          refine wpAnyK_takeTo 18 (some 30) (.agg #[.int .i64 b.x, .int .i64 b.y, .int .i64 b.id]) [26, 27, 28] rfl rfl (by kernel_rfl) (by kernel_rfl) (by kernel_rfl) (by kernel_rfl) (fun _ _ _ h => h) hS (Or.inl ⟨rfl, fun w1 hw1 => by have hw1 : w1 = U := hw1; subst hw1; go_simp⟩) ?_
          simp only [Act.put, List.setIfInBounds_toArray, List.set_cons_zero, List.set_cons_succ]
          refine wpAnyK_takeTo 19 (some 31) (.pointer (some ⟨g, 0, none⟩)) [20, 21, 22, 23, 24, 25, 26, 27, 28] rfl rfl (by kernel_rfl) (by kernel_rfl) (by kernel_rfl) (by kernel_rfl) (fun _ _ _ h => h) hS (Or.inl ⟨rfl, fun w1 hw1 => by have hw1 : w1 = U := hw1; subst hw1; go_simp⟩) ?_
          simp only [Act.put, List.setIfInBounds_toArray, List.set_cons_zero, List.set_cons_succ]
          refine wpAnyK_takeTo 20 (some 32) (.pointer (some ⟨g, 0, none⟩)) [21, 22, 23, 24, 25, 26, 27, 28] rfl rfl (by kernel_rfl) (by kernel_rfl) (by kernel_rfl) (by kernel_rfl) (fun _ _ _ h => h) hS (Or.inl ⟨rfl, fun w1 hw1 => by have hw1 : w1 = U := hw1; subst hw1; go_simp⟩) ?_
          simp only [Act.put, List.setIfInBounds_toArray, List.set_cons_zero, List.set_cons_succ]
          refine wpAnyK_takeTo 21 (some 33) (.pointer (some ⟨g, 6, none⟩)) [22, 23, 24, 25, 26, 27, 28] rfl rfl (by kernel_rfl) (by kernel_rfl) (by kernel_rfl) (by kernel_rfl) (fun _ _ _ h => h) hS (Or.inl ⟨rfl, fun w1 hw1 => by have hw1 : w1 = U := hw1; subst hw1; go_simp⟩) ?_
          simp only [Act.put, List.setIfInBounds_toArray, List.set_cons_zero, List.set_cons_succ]
          refine wpAnyK_takeTo 22 (some 34) (.pointer (some ⟨ga, 0, none⟩)) [23, 24, 25, 26, 27, 28] rfl rfl (by kernel_rfl) (by kernel_rfl) (by kernel_rfl) (by kernel_rfl) (fun _ _ _ h => h) hS (Or.inl ⟨rfl, fun w1 hw1 => by have hw1 : w1 = U := hw1; subst hw1; go_simp⟩) ?_
          simp only [Act.put, List.setIfInBounds_toArray, List.set_cons_zero, List.set_cons_succ]
          refine wpAnyK_takeTo 23 (some 35) (.pointer (some ⟨ga, 0, none⟩)) [24, 25, 26, 27, 28] rfl rfl (by kernel_rfl) (by kernel_rfl) (by kernel_rfl) (by kernel_rfl) (fun _ _ _ h => h) hS (Or.inl ⟨rfl, fun w1 hw1 => by have hw1 : w1 = U := hw1; subst hw1; go_simp⟩) ?_
          simp only [Act.put, List.setIfInBounds_toArray, List.set_cons_zero, List.set_cons_succ]
          refine wpAnyK_takeTo 24 (some 36) (.pointer (some ⟨ga, 0, none⟩)) [25, 26, 27, 28] rfl rfl (by kernel_rfl) (by kernel_rfl) (by kernel_rfl) (by kernel_rfl) (fun _ _ _ h => h) hS (Or.inl ⟨rfl, fun w1 hw1 => by have hw1 : w1 = U := hw1; subst hw1; go_simp⟩) ?_
          simp only [Act.put, List.setIfInBounds_toArray, List.set_cons_zero, List.set_cons_succ]
          refine wpAnyK_takeTo 25 (some 37) (.agg #[.int .i64 a.x, .int .i64 a.y, .int .i64 a.id]) [26, 27, 28] rfl rfl (by kernel_rfl) (by kernel_rfl) (by kernel_rfl) (by kernel_rfl) (fun _ _ _ h => h) hS (Or.inl ⟨rfl, fun w1 hw1 => by have hw1 : w1 = U := hw1; subst hw1; go_simp⟩) ?_
          simp only [Act.put, List.setIfInBounds_toArray, List.set_cons_zero, List.set_cons_succ]
          refine wpAnyK_one (i := 26) (by kernel_rfl) rfl rfl ?_
          refine wp_call_to (some 38) rfl 34 #[.agg #[.int .i64 b.x, .int .i64 b.y, .int .i64 b.id], .agg #[.int .i64 a.x, .int .i64 a.y, .int .i64 a.id]] (by go_simp) (HAB.out _) ?_
          rintro e V ⟨rfl, fV⟩
          refine ⟨_, rfl, fun h => by simp at h, ?_⟩
          simp only [Act.put, List.setIfInBounds_toArray, List.set_cons_zero, List.set_cons_succ]
          have HB2 := hide (HB1.out.same fV)
          clear hS fV HAB HB1 a0 a1 a2 k0 k1 k2 c0 c1 c2 c3 c4 c5 c6 c7 c8
          refine wpAnyK_one (i := 27) (by kernel_rfl) rfl rfl ?_
          go_simp
          refine wpAnyK_one (i := 28) (by kernel_rfl) rfl rfl ?_
          go_simp
          refine wpAnyK_done (by kernel_rfl) ?_ _
          cases x with
          | true =>
            have HQ := hide ((top_two HOK.out).2 (of_decide_eq_true hab))
            clear hab
            obtain ⟨U7, hU7⟩ : ∃ U7, U7 = V.setCell ⟨g, 8, none⟩ (.int .i64 (M : Int)) := ⟨_, rfl⟩
            have HB7 : Hid (BS w base g t0 f (some ⟨ga, 0, none⟩) (some ⟨gb, 0, none⟩) M (PT.node a fa la' ra') (PT.node b fb lb rb) Sl Sr U7) := hide (by rw [hU7]; exact HB2.out.set (Fr.setCell V ⟨g, 8, none⟩ _) (HB2.out.no.size M) HD.out.1 HD.out.2.1)
            obtain ⟨U8, hU8⟩ : ∃ U8, U8 = ((U7.setCell ⟨g, 0, none⟩ (.int .i64 b.x)).setCell ⟨g, 1, none⟩ (.int .i64 b.y)).setCell ⟨g, 2, none⟩ (.int .i64 b.id) := ⟨_, rfl⟩
            have HB8 : Hid (BS w base g b f (some ⟨ga, 0, none⟩) (some ⟨gb, 0, none⟩) M (PT.node a fa la' ra') (PT.node b fb lb rb) Sl Sr U8) := hide (by rw [hU8]; exact HB7.out.set (Fr.set3 U7 g 0 1 2 _ _ _) (HB7.out.no.top b) HD.out.1 HD.out.2.1)
            obtain ⟨c0, c1, c2, c3, c4, c5, c6, c7, c8⟩ := HB2.out.no.c
            have z8 := HB2.out.no.frozen 8
            obtain ⟨d0, d1, d2, d3, d4, d5, d6, d7, d8⟩ := HB7.out.no.c
            have z0 := HB7.out.no.frozen 0
            have z1 := HB7.out.no.frozen 1
            have z2 := HB7.out.no.frozen 2
            have hchild : PtAt U7 gb 0 b := by
              obtain ⟨gq', _, _, _, _, hgq', _, hNq, _⟩ := HB7.out.tr
              cases hgq'
              exact hNq.c.pt
            obtain ⟨x1, x2, x3⟩ := hchild
            obtain ⟨b0, b1, b2, b3, b4, b5, b6, b7, b8⟩ := HB8.out.no.c
            have HIB := hide (HIR.out U8 base _ Sr HB8.out.tr HOK.out.2.2.2.2 (List.Pairwise.sublist (List.sublist_append_right _ _) (List.pairwise_cons.1 HID.out).2) (by have := HSZ.out; omega) (Nat.le_trans HB.out HB8.out.fr.size) b fb lb rb rfl)
            have HU7 := hide hU7
            have HU8 := hide hU8
            clear hU7 hU8
            go_wp2_with (first | rw [← HU7.out] | rw [← HU8.out])
            refine HIB.out.mono ?_
            rintro e U9 ⟨t1, v1, S1, rfl, ht1, hok1, hp1, hS1, hf1⟩
            obtain ⟨na, rfl⟩ := ht1.ptr
            have hgS : ¬ Sr g := HD.out.2.1
            have h9n := HB8.out.no.fr hf1 hgS
            obtain ⟨e0, e1, e2, e3, e4, e5, e6, e7, e8⟩ := h9n.c
            have zz := h9n.frozen 7
            have HFI := hide (BS.fin (t0 := t0) (n := nn) false (by have h8 := HB8.out; rw [HNN.out.2] at h8; exact h8) HS0.out HD.out HG.out HLL.out HRR.out HOK.out HID.out HSZ.out HNN.out.1 HB.out HQ.out ht1 hok1 (by simpa using hp1) (by simpa using hS1) (by simpa using hf1))
            simp only [if_true, Bool.false_eq_true, if_false] at HFI
            clear c0 c1 c2 c3 c4 c5 c6 c7 c8 z8 d0 d1 d2 d3 d4 d5 d6 d7 d8 z0 z1 z2 x1 x2 x3 b0 b1 b2 b3 b4 b5 b6 b7 b8 HU7 HU8 ht1 hok1 hp1 hS1 hf1 h9n HIB HB7 HB8 HB2
            go_wp2_with fail
            refine HFI.out.mono ?_
            rintro e U12 hres
            obtain ⟨_, v12, _, rfl, _⟩ := id hres
            have HRES := hide hres
            clear hres HFI e0 e1 e2 e3 e4 e5 e6 e7 e8 zz
            go_wp2
            go_ret
            exact HRES.out
          | false =>
            have HQ := hide ((top_two HOK.out).1 (of_decide_eq_false hab))
            clear hab
            obtain ⟨U7, hU7⟩ : ∃ U7, U7 = V.setCell ⟨g, 8, none⟩ (.int .i64 (M : Int)) := ⟨_, rfl⟩
            have HB7 : Hid (BS w base g t0 f (some ⟨ga, 0, none⟩) (some ⟨gb, 0, none⟩) M (PT.node a fa la' ra') (PT.node b fb lb rb) Sl Sr U7) := hide (by rw [hU7]; exact HB2.out.set (Fr.setCell V ⟨g, 8, none⟩ _) (HB2.out.no.size M) HD.out.1 HD.out.2.1)
            obtain ⟨U8, hU8⟩ : ∃ U8, U8 = ((U7.setCell ⟨g, 0, none⟩ (.int .i64 a.x)).setCell ⟨g, 1, none⟩ (.int .i64 a.y)).setCell ⟨g, 2, none⟩ (.int .i64 a.id) := ⟨_, rfl⟩
            have HB8 : Hid (BS w base g a f (some ⟨ga, 0, none⟩) (some ⟨gb, 0, none⟩) M (PT.node a fa la' ra') (PT.node b fb lb rb) Sl Sr U8) := hide (by rw [hU8]; exact HB7.out.set (Fr.set3 U7 g 0 1 2 _ _ _) (HB7.out.no.top a) HD.out.1 HD.out.2.1)
            obtain ⟨c0, c1, c2, c3, c4, c5, c6, c7, c8⟩ := HB2.out.no.c
            have z8 := HB2.out.no.frozen 8
            obtain ⟨d0, d1, d2, d3, d4, d5, d6, d7, d8⟩ := HB7.out.no.c
            have z0 := HB7.out.no.frozen 0
            have z1 := HB7.out.no.frozen 1
            have z2 := HB7.out.no.frozen 2
            have hchild : PtAt U7 ga 0 a := by
              obtain ⟨gq', _, _, _, _, hgq', _, hNq, _⟩ := HB7.out.tl
              cases hgq'
              exact hNq.c.pt
            obtain ⟨x1, x2, x3⟩ := hchild
            obtain ⟨b0, b1, b2, b3, b4, b5, b6, b7, b8⟩ := HB8.out.no.c
            have HIB := hide (HIL.out U8 base _ Sl HB8.out.tl HOK.out.2.2.2.1 (List.Pairwise.sublist (List.sublist_append_left _ _) (List.pairwise_cons.1 HID.out).2) (by have := HSZ.out; omega) (Nat.le_trans HB.out HB8.out.fr.size) a fa la' ra' rfl)
            have HU7 := hide hU7
            have HU8 := hide hU8
            clear hU7 hU8
            go_wp2_with (first | rw [← HU7.out] | rw [← HU8.out])
            refine HIB.out.mono ?_
            rintro e U9 ⟨t1, v1, S1, rfl, ht1, hok1, hp1, hS1, hf1⟩
            obtain ⟨na, rfl⟩ := ht1.ptr
            have hgS : ¬ Sl g := HD.out.1
            have h9n := HB8.out.no.fr hf1 hgS
            obtain ⟨e0, e1, e2, e3, e4, e5, e6, e7, e8⟩ := h9n.c
            have zz := h9n.frozen 6
            have HFI := hide (BS.fin (t0 := t0) (n := nn) true (by have h8 := HB8.out; rw [HNN.out.2] at h8; exact h8) HS0.out HD.out HG.out HLL.out HRR.out HOK.out HID.out HSZ.out HNN.out.1 HB.out HQ.out ht1 hok1 (by simpa using hp1) (by simpa using hS1) (by simpa using hf1))
            simp only [if_true, Bool.false_eq_true, if_false] at HFI
            clear c0 c1 c2 c3 c4 c5 c6 c7 c8 z8 d0 d1 d2 d3 d4 d5 d6 d7 d8 z0 z1 z2 x1 x2 x3 b0 b1 b2 b3 b4 b5 b6 b7 b8 HU7 HU8 ht1 hok1 hp1 hS1 hf1 h9n HIB HB7 HB8 HB2
            go_wp2_with fail
            refine HFI.out.mono ?_
            rintro e U12 hres
            obtain ⟨_, v12, _, rfl, _⟩ := id hres
            have HRES := hide hres
            clear hres HFI e0 e1 e2 e3 e4 e5 e6 e7 e8 zz
            go_wp2
            go_ret
            exact HRES.out
end Go.Proofs.YtigkinakhijfoaaGreat.Ps
