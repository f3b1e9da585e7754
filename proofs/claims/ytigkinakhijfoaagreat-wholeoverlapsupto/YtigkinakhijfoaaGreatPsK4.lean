/- cut. -/
import Derived.Test.YtigkinakhijfoaaGreatPsK3
namespace Go.Proofs.YtigkinakhijfoaaGreat.Ps
open Go.RowKit Go.Sort
set_option maxRecDepth 100000
set_option linter.unusedVariables false
set_option linter.unusedSimpArgs false

section
variable {w : World} {base g gp : Nat} {q f : Pt} {la ra : Option Addr} {n : Nat} {l r : PT} {Sl Sr : Nat → Prop}
theorem CS.fin {U : World} {y s : Pt} {S : Nat → Prop} (left : Bool) (h : AS w base g gp q f la ra (n + 1) l r Sl Sr s U) (hS0 : ∀ k, S k ↔ (k = g ∨ Sl k ∨ Sr k)) (hd : ¬ Sl g ∧ ¬ Sr g ∧ ∀ k, Sl k → ¬ Sr k) (hg : g < w.heap.size ∧ base ≤ g) (hls : ∀ k, Sl k → k < w.heap.size) (hrs : ∀ k, Sr k → k < w.heap.size) (hok : (PT.node q f l r).Ok) (hid : Ids (PT.node q f l r).pts) (hsz : l.size + r.size + 1 ≤ 1099511627776) (hnn : n + 1 = l.size + r.size) (hb : base ≤ w.heap.size)
    {U1 : World} {t1 : PT} {na : Option Addr} {S1 : Nat → Prop} (ht1 : TreeAt U1 base t1 (.pointer na) S1) (hok1 : t1.Ok) (hp1 : (y :: t1.pts).Perm (if left then l.pts else r.pts)) (hS1 : ∀ k, S1 k → (if left then Sl k else Sr k) ∨ U.heap.size ≤ k) (hf1 : Fr U U1 (fun k => if left then Sl k else Sr k)) :
    Calls Tryz.prog 36 #[.pointer (some ⟨g, 0, none⟩)] (U1.setCell ⟨g, if left then 6 else 7, none⟩ (.pointer na)) fun e w' => BehPost w base y (PT.node q f l r).pts S e w' := by
  obtain ⟨d1, d2, d3⟩ := hd
  have hU := h.fr.size
  have hsub : ∀ z ∈ t1.pts, z ∈ (if left then l.pts else r.pts) := fun z hz => hp1.mem_iff.1 (List.mem_cons_of_mem _ hz)
  have hokn := ok_less left hok hok1 hok.1 hsub
  have hlen : t1.size + 1 = (if left then l.size else r.size) := by
    have := hp1.length_eq
    rw [List.length_cons, t1.length_pts] at this
    rw [this]
    cases left <;> simp [PT.length_pts]
  cases left with
  | true =>
    simp only [if_true] at *
    have hgS : ¬ S1 g := fun hh => by rcases hS1 g hh with h' | h'; exact d1 h'; omega
    have hn1 : NodeAt U1 g q f (.pointer la) (.pointer ra) (n + 1) := h.no.fr hf1 d1
    have F := Fr.setCell U1 ⟨g, 6, none⟩ (.pointer na)
    have hn2 := hn1.left (.pointer na)
    have htr : TreeAt (U1.setCell ⟨g, 6, none⟩ (.pointer na)) base (.node q f t1 r) (.pointer (some ⟨g, 0, none⟩)) (fun k => k = g ∨ S1 k ∨ Sr k) := ⟨g, _, _, S1, Sr, rfl, hg.2, by rw [show t1.size + r.size + 1 = n + 1 by omega]; exact hn2, ht1.fr F (fun k hk hh => by have hh : k = g := hh; subst hh; exact hgS hk), (h.tr.fr hf1 (fun k hk hh => d3 k hh hk)).fr F (fun k hk hh => by have hh : k = g := hh; subst hh; exact d2 hk), hgS, d2, fun k h1 h2 => by
      rcases hS1 k h1 with h' | h'
      · exact d3 k h' h2
      · have := hrs k h2; omega, fun k => Iff.rfl⟩
    have hperm : (y :: (PT.node q f t1 r).pts).Perm (PT.node q f l r).pts := by
      simp only [PT.pts]
      refine (List.Perm.swap _ _ _).trans (List.Perm.cons _ ?_)
      have := hp1.append_right r.pts
      simpa using this
    have hids : Ids (PT.node q f t1 r).pts := (List.pairwise_cons.1 (Ids.perm (L := (PT.node q f l r).pts) hid hperm.symm)).2
    have hFr : Fr w (U1.setCell ⟨g, 6, none⟩ (.pointer na)) S := ((h.fr.trans hf1).trans F).mono (fun k _ hh => by
      rcases hh with (hh | hh) | hh
      · exact (hS0 k).2 (.inl hh)
      · exact (hS0 k).2 (.inr (.inl hh))
      · exact (hS0 k).2 (.inl hh))
    refine (balanced_any htr hokn hids (by show t1.size + r.size + 1 ≤ _; omega) (Nat.le_trans hb hFr.size)).mono ?_
    rintro e w' ⟨t', v', S', q1, q2, q3, q4, q5, q6⟩
    refine ⟨t', v', S', q1, q2, q3, (q4.cons y).trans hperm, fun k hk => ?_, (hFr.trans q6).mono (fun k _ hh => by rcases hh with hh | hh; exact hh; exact hh.elim)⟩
    rcases q5 k hk with h' | h'
    · rcases h' with h' | h' | h'
      · exact .inl ((hS0 k).2 (.inl h'))
      · rcases hS1 k h' with h'' | h''
        · exact .inl ((hS0 k).2 (.inr (.inl h'')))
        · exact .inr (by omega)
      · exact .inl ((hS0 k).2 (.inr (.inr h')))
    · exact .inr (by have := hFr.size; omega)
  | false =>
    simp only [Bool.false_eq_true, if_false] at *
    have hgS : ¬ S1 g := fun hh => by rcases hS1 g hh with h' | h'; exact d2 h'; omega
    have hn1 : NodeAt U1 g q f (.pointer la) (.pointer ra) (n + 1) := h.no.fr hf1 d2
    have F := Fr.setCell U1 ⟨g, 7, none⟩ (.pointer na)
    have hn2 := hn1.right (.pointer na)
    have htr : TreeAt (U1.setCell ⟨g, 7, none⟩ (.pointer na)) base (.node q f l t1) (.pointer (some ⟨g, 0, none⟩)) (fun k => k = g ∨ Sl k ∨ S1 k) := ⟨g, _, _, Sl, S1, rfl, hg.2, by rw [show l.size + t1.size + 1 = n + 1 by omega]; exact hn2, (h.tl.fr hf1 (fun k hk hh => d3 k hk hh)).fr F (fun k hk hh => by have hh : k = g := hh; subst hh; exact d1 hk), ht1.fr F (fun k hk hh => by have hh : k = g := hh; subst hh; exact hgS hk), d1, hgS, fun k h1 h2 => by
      rcases hS1 k h2 with h' | h'
      · exact d3 k h1 h'
      · have := hls k h1; omega, fun k => Iff.rfl⟩
    have hperm : (y :: (PT.node q f l t1).pts).Perm (PT.node q f l r).pts := by
      simp only [PT.pts]
      refine (List.Perm.swap _ _ _).trans (List.Perm.cons _ ?_)
      exact List.perm_middle.symm.trans (hp1.append_left l.pts)
    have hids : Ids (PT.node q f l t1).pts := (List.pairwise_cons.1 (Ids.perm (L := (PT.node q f l r).pts) hid hperm.symm)).2
    have hFr : Fr w (U1.setCell ⟨g, 7, none⟩ (.pointer na)) S := ((h.fr.trans hf1).trans F).mono (fun k _ hh => by
      rcases hh with (hh | hh) | hh
      · exact (hS0 k).2 (.inl hh)
      · exact (hS0 k).2 (.inr (.inr hh))
      · exact (hS0 k).2 (.inl hh))
    refine (balanced_any htr hokn hids (by show l.size + t1.size + 1 ≤ _; omega) (Nat.le_trans hb hFr.size)).mono ?_
    rintro e w' ⟨t', v', S', q1, q2, q3, q4, q5, q6⟩
    refine ⟨t', v', S', q1, q2, q3, (q4.cons y).trans hperm, fun k hk => ?_, (hFr.trans q6).mono (fun k _ hh => by rcases hh with hh | hh; exact hh; exact hh.elim)⟩
    rcases q5 k hk with h' | h'
    · rcases h' with h' | h' | h'
      · exact .inl ((hS0 k).2 (.inl h'))
      · exact .inl ((hS0 k).2 (.inr (.inl h')))
      · rcases hS1 k h' with h'' | h''
        · exact .inl ((hS0 k).2 (.inr (.inr h'')))
        · exact .inr (by omega)
    · exact .inr (by have := hFr.size; omega)
end
theorem _root_.Go.Proofs.YtigkinakhijfoaaGreat.Fr.both {a b c : World} (h : Fr a b (fun _ => False)) (k : Fr b c (fun _ => False)) : Fr a c (fun _ => False) := (h.trans k).mono (fun _ _ h => h.elim (fun h => h) (fun h => h))
theorem BehPost.back {w U : World} {base : Nat} {p : Pt} {L : List Pt} {S : Nat → Prop} {e : Ending} {w' : World} (h : BehPost U base p L S e w') (hf : Fr w U (fun _ => False)) : BehPost w base p L S e w' := by
  obtain ⟨t', v', S', h1, h2, h3, h4, h5, h6⟩ := h
  exact ⟨t', v', S', h1, h2, h3, h4, fun k hk => (h5 k hk).imp (fun h => h) (fun h => Nat.le_trans hf.size h), (hf.trans h6).mono (fun k _ h => by rcases h with h | h; exact h.elim; exact h)⟩
theorem ids_eq {L : List Pt} (h : Ids L) {a b : Pt} (ha : a ∈ L) (hb : b ∈ L) (hab : a.id = b.id) : a = b := by
  induction L with
  | nil => cases ha
  | cons x L ih =>
    obtain ⟨h1, h2⟩ := List.pairwise_cons.1 h
    rcases List.mem_cons.1 ha with ha1 | ha1 <;> rcases List.mem_cons.1 hb with hb1 | hb1
    · rw [ha1, hb1]
    · rw [ha1] at hab; exact absurd hab (h1 b hb1)
    · rw [hb1] at hab; exact absurd hab.symm (h1 a ha1)
    · exact ih h2 ha1 hb1
set_option maxHeartbeats 16000000 in
theorem cut_any : ∀ (t : PT) (w : World) (base : Nat) (v : Value) (S : Nat → Prop) (h : TreeAt w base t v S) (hok : t.Ok) (hid : Ids t.pts) (hsz : t.size ≤ 1099511627776) (hb : base ≤ w.heap.size) (p y : Pt) (hy : y ∈ t.pts) (hpx : p.x = y.x) (hpi : p.id = y.id),
    Calls Tryz.prog 20 #[v, p.agg] w fun e w' => BehPost w base y t.pts S e w' := by
  intro t
  induction t with
  | nil => intro w base v S h hok hid hsz hb p y hy; cases hy
  | node t0 f l r ihl ihr =>
    intro w base v S h hok hid hsz hb p y hy hpx hpi
    have h' := h
    obtain ⟨g, cl, cr, Sl, Sr, rfl, hg, hN, hl, hr, d1, d2, d3, hS0⟩ := h
    obtain ⟨la, rfl⟩ := hl.ptr
    obtain ⟨ra, rfl⟩ := hr.ptr
    have hsz2 : l.size + r.size + 1 ≤ 1099511627776 := hsz
    have hgw : g < w.heap.size := (Array.getElem?_eq_some_iff.1 hN).1
    have HLL : Hid (∀ k, Sl k → k < w.heap.size) := hide (fun k hk => (hl.lt k hk).2)
    have HRR : Hid (∀ k, Sr k → k < w.heap.size) := hide (fun k hk => (hr.lt k hk).2)
    have HSD := hide (fun (U : World) (m : Nat) (hh : NodeAt U g t0 f (.pointer la) (.pointer ra) m) => side_any hh p)
    unfold Pt.agg at HSD ⊢
    have FA := (Fr.alloc w (.cells #[.int .i64 p.x, .int .i64 p.y, .int .i64 p.id] 35) (fun _ => False)).both (Fr.drew _ (fun _ => False))
    have hbn : BoxAt (w.alloc (.cells #[.int .i64 p.x, .int .i64 p.y, .int .i64 p.id] 35)).drew w.heap.size p := heap_alloc_new w _
    have HA1 : Hid (AS w base g w.heap.size t0 f la ra (l.size + r.size + 1) l r Sl Sr p (w.alloc (.cells #[.int .i64 p.x, .int .i64 p.y, .int .i64 p.id] 35)).drew) := hide ⟨hN.fr FA (fun h => h), hbn, hl.fr FA (fun _ _ h => h), hr.fr FA (fun _ _ h => h), FA.mono (fun _ _ h => h.elim), by show _ ≤ (w.alloc _).heap.size; simp⟩
    have HTR := hide (h'.fr FA (fun _ _ h => h))
    have HFA := hide FA
    have HG : Hid (g < w.heap.size ∧ base ≤ g) := hide ⟨hgw, hg⟩
    have HS0 := hide hS0
    have HOK := hide hok
    have HID := hide hid
    have HIL := hide ihl
    have HIR := hide ihr
    have HD := hide (And.intro d1 (And.intro d2 d3))
    have HB := hide hb
    have HSZ := hide hsz2
    have HY := hide (And.intro hy (And.intro hpx hpi))
    have hgp : w.heap.size ≠ g := by omega
    generalize hNe : l.size + r.size + 1 = N at HA1
    have HNE := hide hNe
    have hNb : N ≤ 1099511627776 := by omega
    clear hNe hok ihl ihr hN hl hr d1 d2 d3 hS0 FA hbn hid hsz hb hg hsz2 hy hpx hpi h'
    go_enter Tryz.func20, Tryz.ntmps20
    go_wp2_with fail
    refine wp_region_K (fun _ => true) (fun U : World => U = (w.alloc (.cells #[.int .i64 p.x, .int .i64 p.y, .int .i64 p.id] 35)).drew) (by kernel_rfl) ?_
    generalize (w.alloc (.cells #[.int .i64 p.x, .int .i64 p.y, .int .i64 p.id] 35)).drew = U at *
    generalize hgpe : w.heap.size = gp at *
    have HGP := hide hgpe
    clear hgpe
    have hS : (fun V : World => V = U) U := rfl
    obtain ⟨x1, x2, x3⟩ := HA1.out.bx.pt
    obtain ⟨c0, c1, c2, c3, c4, c5, c6, c7, c8⟩ := HA1.out.no.c
    by_cases hti : t0.id = p.id
    · have htib : (t0.id == p.id) = true := by simp [hti]
      have HYT : Hid (y = t0) := hide <| ids_eq HID.out HY.out.1 (by simp [PT.pts]) (by rw [← HY.out.2.2, hti])
      have HBE := hide (behead_any _ _ _ _ _ HTR.out HOK.out HID.out HSZ.out (by have := HFA.out.size; have := HB.out; have := HGP.out; omega) t0 f l r rfl)
      refine wpAnyK_takeTo 0 (some 6) (.pointer (some ⟨g, 0, none⟩)) [1, 2, 3, 4, 7] rfl rfl (by kernel_rfl) (by kernel_rfl) (by kernel_rfl) (by kernel_rfl) (fun _ _ _ h => h) hS (Or.inl ⟨rfl, fun w1 hw1 => by have hw1 : w1 = U := hw1; subst hw1; go_simp⟩) ?_
      simp only [Act.put, List.setIfInBounds_toArray, List.set_cons_zero, List.set_cons_succ]
      refine wpAnyK_takeTo 1 (some 7) (.pointer (some ⟨g, 0, none⟩)) [2, 3, 4, 7] rfl rfl (by kernel_rfl) (by kernel_rfl) (by kernel_rfl) (by kernel_rfl) (fun _ _ _ h => h) hS (Or.inl ⟨rfl, fun w1 hw1 => by have hw1 : w1 = U := hw1; subst hw1; go_simp⟩) ?_
      simp only [Act.put, List.setIfInBounds_toArray, List.set_cons_zero, List.set_cons_succ]
      refine wpAnyK_takeTo 2 (some 8) (.pointer (some ⟨g, 0, none⟩)) [3, 4, 7] rfl rfl (by kernel_rfl) (by kernel_rfl) (by kernel_rfl) (by kernel_rfl) (fun _ _ _ h => h) hS (Or.inl ⟨rfl, fun w1 hw1 => by have hw1 : w1 = U := hw1; subst hw1; go_simp⟩) ?_
      simp only [Act.put, List.setIfInBounds_toArray, List.set_cons_zero, List.set_cons_succ]
      refine wpAnyK_takeTo 3 (some 9) (.pointer (some ⟨g, 2, none⟩)) [4, 7] rfl rfl (by kernel_rfl) (by kernel_rfl) (by kernel_rfl) (by kernel_rfl) (fun _ _ _ h => h) hS (Or.inl ⟨rfl, fun w1 hw1 => by have hw1 : w1 = U := hw1; subst hw1; go_simp⟩) ?_
      simp only [Act.put, List.setIfInBounds_toArray, List.set_cons_zero, List.set_cons_succ]
      refine wpAnyK_takeTo 4 (some 10) (.int .i64 t0.id) [7] rfl rfl (by kernel_rfl) (by kernel_rfl) (by kernel_rfl) (by kernel_rfl) (fun _ _ _ h => h) hS (Or.inl ⟨rfl, fun w1 hw1 => by have hw1 : w1 = U := hw1; subst hw1; go_simp⟩) ?_
      simp only [Act.put, List.setIfInBounds_toArray, List.set_cons_zero, List.set_cons_succ]
      refine wpAnyK_takeTo 5 (some 11) (.pointer (some ⟨gp, 2, none⟩)) [6, 7] rfl rfl (by kernel_rfl) (by kernel_rfl) (by kernel_rfl) (by kernel_rfl) (fun _ _ _ h => h) hS (Or.inl ⟨rfl, fun w1 hw1 => by have hw1 : w1 = U := hw1; subst hw1; go_simp⟩) ?_
      simp only [Act.put, List.setIfInBounds_toArray, List.set_cons_zero, List.set_cons_succ]
      refine wpAnyK_takeTo 6 (some 12) (.int .i64 p.id) [7] rfl rfl (by kernel_rfl) (by kernel_rfl) (by kernel_rfl) (by kernel_rfl) (fun _ _ _ h => h) hS (Or.inl ⟨rfl, fun w1 hw1 => by have hw1 : w1 = U := hw1; subst hw1; go_simp⟩) ?_
      simp only [Act.put, List.setIfInBounds_toArray, List.set_cons_zero, List.set_cons_succ]
      refine wpAnyK_takeTo 7 (some 13) (.bool true) [] rfl rfl (by kernel_rfl) (by kernel_rfl) (by kernel_rfl) (by kernel_rfl) (fun _ _ _ h => h) hS (Or.inl ⟨rfl, fun w1 hw1 => by have hw1 : w1 = U := hw1; subst hw1; go_simp⟩) ?_
      simp only [Act.put, List.setIfInBounds_toArray, List.set_cons_zero, List.set_cons_succ]
      refine wpAnyK_done (by kernel_rfl) ?_ _
      clear hS x1 x2 x3 c0 c1 c2 c3 c4 c5 c6 c7 c8
      go_wp2_with fail
      refine HBE.out.mono ?_
      rintro e W2 hres
      obtain ⟨_, v12, _, rfl, _⟩ := id hres
      have HRES : Hid (BehPost w base y (PT.node t0 f l r).pts S (.returned v12) W2) := hide (by rw [HYT.out]; exact hres.back HFA.out)
      clear hres HBE
      go_wp2
      go_ret
      exact HRES.out
    · have htib : (t0.id == p.id) = false := by simp [hti]
      have HYM : Hid (y ∈ l.pts ++ r.pts) := hide (by
        rcases List.mem_cons.1 HY.out.1 with h | h
        · exact absurd (by rw [← h, HY.out.2.2]) hti
        · exact h)
      have hpos : 0 < l.size + r.size := by
        have := List.length_pos_of_mem HYM.out
        rw [List.length_append, PT.length_pts, PT.length_pts] at this
        exact this
      obtain ⟨nn, hnn⟩ : ∃ nn, nn + 1 = l.size + r.size := ⟨l.size + r.size - 1, by omega⟩
      obtain ⟨M, hM⟩ : ∃ M, M = nn + 1 := ⟨_, rfl⟩
      have hN1 : (N : Int) - 1 = (M : Int) := by have := HNE.out; omega
      have HNN : Hid (nn + 1 = l.size + r.size ∧ M = nn + 1) := hide ⟨hnn, hM⟩
      have z8 := HA1.out.no.frozen 8
      obtain ⟨U7, hU7⟩ : ∃ U7, U7 = U.setCell ⟨g, 8, none⟩ (.int .i64 (M : Int)) := ⟨_, rfl⟩
      have HA7 : Hid (AS w base g gp t0 f la ra M l r Sl Sr p U7) := hide (by rw [hU7]; exact HA1.out.set (Fr.setCell U ⟨g, 8, none⟩ _) (HA1.out.no.size M) hgp HD.out.1 HD.out.2.1)
      obtain ⟨y1, y2, y3⟩ := HA7.out.bx.pt
      have HSI := hide (HSD.out U7 M HA7.out.no)
      have HU7 := hide hU7
      clear hU7 hnn hM hpos
      refine wpAnyK_takeTo 0 (some 6) (.pointer (some ⟨g, 0, none⟩)) [1, 2, 3, 4, 7] rfl rfl (by kernel_rfl) (by kernel_rfl) (by kernel_rfl) (by kernel_rfl) (fun _ _ _ h => h) hS (Or.inl ⟨rfl, fun w1 hw1 => by have hw1 : w1 = U := hw1; subst hw1; go_simp⟩) ?_
      simp only [Act.put, List.setIfInBounds_toArray, List.set_cons_zero, List.set_cons_succ]
      refine wpAnyK_takeTo 1 (some 7) (.pointer (some ⟨g, 0, none⟩)) [2, 3, 4, 7] rfl rfl (by kernel_rfl) (by kernel_rfl) (by kernel_rfl) (by kernel_rfl) (fun _ _ _ h => h) hS (Or.inl ⟨rfl, fun w1 hw1 => by have hw1 : w1 = U := hw1; subst hw1; go_simp⟩) ?_
      simp only [Act.put, List.setIfInBounds_toArray, List.set_cons_zero, List.set_cons_succ]
      refine wpAnyK_takeTo 2 (some 8) (.pointer (some ⟨g, 0, none⟩)) [3, 4, 7] rfl rfl (by kernel_rfl) (by kernel_rfl) (by kernel_rfl) (by kernel_rfl) (fun _ _ _ h => h) hS (Or.inl ⟨rfl, fun w1 hw1 => by have hw1 : w1 = U := hw1; subst hw1; go_simp⟩) ?_
      simp only [Act.put, List.setIfInBounds_toArray, List.set_cons_zero, List.set_cons_succ]
      refine wpAnyK_takeTo 3 (some 9) (.pointer (some ⟨g, 2, none⟩)) [4, 7] rfl rfl (by kernel_rfl) (by kernel_rfl) (by kernel_rfl) (by kernel_rfl) (fun _ _ _ h => h) hS (Or.inl ⟨rfl, fun w1 hw1 => by have hw1 : w1 = U := hw1; subst hw1; go_simp⟩) ?_
      simp only [Act.put, List.setIfInBounds_toArray, List.set_cons_zero, List.set_cons_succ]
      refine wpAnyK_takeTo 4 (some 10) (.int .i64 t0.id) [7] rfl rfl (by kernel_rfl) (by kernel_rfl) (by kernel_rfl) (by kernel_rfl) (fun _ _ _ h => h) hS (Or.inl ⟨rfl, fun w1 hw1 => by have hw1 : w1 = U := hw1; subst hw1; go_simp⟩) ?_
      simp only [Act.put, List.setIfInBounds_toArray, List.set_cons_zero, List.set_cons_succ]
      refine wpAnyK_takeTo 5 (some 11) (.pointer (some ⟨gp, 2, none⟩)) [6, 7] rfl rfl (by kernel_rfl) (by kernel_rfl) (by kernel_rfl) (by kernel_rfl) (fun _ _ _ h => h) hS (Or.inl ⟨rfl, fun w1 hw1 => by have hw1 : w1 = U := hw1; subst hw1; go_simp⟩) ?_
      simp only [Act.put, List.setIfInBounds_toArray, List.set_cons_zero, List.set_cons_succ]
      refine wpAnyK_takeTo 6 (some 12) (.int .i64 p.id) [7] rfl rfl (by kernel_rfl) (by kernel_rfl) (by kernel_rfl) (by kernel_rfl) (fun _ _ _ h => h) hS (Or.inl ⟨rfl, fun w1 hw1 => by have hw1 : w1 = U := hw1; subst hw1; go_simp⟩) ?_
      simp only [Act.put, List.setIfInBounds_toArray, List.set_cons_zero, List.set_cons_succ]
      refine wpAnyK_takeTo 7 (some 13) (.bool false) [] rfl rfl (by kernel_rfl) (by kernel_rfl) (by kernel_rfl) (by kernel_rfl) (fun _ _ _ h => h) hS (Or.inl ⟨rfl, fun w1 hw1 => by have hw1 : w1 = U := hw1; subst hw1; go_simp⟩) ?_
      simp only [Act.put, List.setIfInBounds_toArray, List.set_cons_zero, List.set_cons_succ]
      refine wpAnyK_done (by kernel_rfl) ?_ _
      clear hS
      by_cases ha : aheadP p f
      ·
        rw [if_pos ha] at HSI
        go_wp2_with (rw [← HU7.out])
        refine HSI.out.mono ?_
        rintro e U8 ⟨rfl, f8⟩
        have HA8 := hide (HA7.out.same f8)
        clear f8 HSI HA7 x1 x2 x3 c0 c1 c2 c3 c4 c5 c6 c7 c8 z8 y1 y2 y3 HU7 HSD HA1
        go_wp2_with fail
        refine wp_region_K (fun z => decide (z < 6)) (fun U : World => PtAt U gp 0 p ∧ NodeC U g t0 f (.pointer la) (.pointer ra) M) (by kernel_rfl) ?_
        have HA9 := hide (HA8.out.same (Fr.drew U8 (fun _ => False)))
        clear HA8
        generalize U8.drew = U9 at *
        have hS : (fun U : World => PtAt U gp 0 p ∧ NodeC U g t0 f (.pointer la) (.pointer ra) M) U9 := ⟨HA9.out.bx.pt, HA9.out.no.c⟩
        refine wpAnyK_takeTo 0 (some 26) (.pointer (some ⟨g, 6, none⟩)) [6, 7] rfl rfl (by kernel_rfl) (by kernel_rfl) (by kernel_rfl) (by kernel_rfl) (fun _ _ _ h => h) hS (Or.inl ⟨rfl, fun w1 hw1 => by obtain ⟨⟨q1, q2, q3⟩, ⟨c0, c1, c2, c3, c4, c5, c6, c7, c8⟩⟩ := hw1; go_simp⟩) ?_
        simp only [Act.put, List.setIfInBounds_toArray, List.set_cons_zero, List.set_cons_succ]
        refine wpAnyK_takeTo 1 (some 27) (.pointer (some ⟨g, 6, none⟩)) [2, 3, 5, 6, 7] rfl rfl (by kernel_rfl) (by kernel_rfl) (by kernel_rfl) (by kernel_rfl) (fun _ _ _ h => h) hS (Or.inl ⟨rfl, fun w1 hw1 => by obtain ⟨⟨q1, q2, q3⟩, ⟨c0, c1, c2, c3, c4, c5, c6, c7, c8⟩⟩ := hw1; go_simp⟩) ?_
        simp only [Act.put, List.setIfInBounds_toArray, List.set_cons_zero, List.set_cons_succ]
        refine wpAnyK_takeTo 2 (some 28) (.pointer (some ⟨g, 6, none⟩)) [3, 5, 6, 7] rfl rfl (by kernel_rfl) (by kernel_rfl) (by kernel_rfl) (by kernel_rfl) (fun _ _ _ h => h) hS (Or.inl ⟨rfl, fun w1 hw1 => by obtain ⟨⟨q1, q2, q3⟩, ⟨c0, c1, c2, c3, c4, c5, c6, c7, c8⟩⟩ := hw1; go_simp⟩) ?_
        simp only [Act.put, List.setIfInBounds_toArray, List.set_cons_zero, List.set_cons_succ]
        refine wpAnyK_takeTo 3 (some 29) (.pointer la) [5, 6, 7] rfl rfl (by kernel_rfl) (by kernel_rfl) (by kernel_rfl) (by kernel_rfl) (fun _ _ _ h => h) hS (Or.inl ⟨rfl, fun w1 hw1 => by obtain ⟨⟨q1, q2, q3⟩, ⟨c0, c1, c2, c3, c4, c5, c6, c7, c8⟩⟩ := hw1; go_simp⟩) ?_
        simp only [Act.put, List.setIfInBounds_toArray, List.set_cons_zero, List.set_cons_succ]
        refine wpAnyK_takeTo 4 (some 30) (.agg #[.int .i64 p.x, .int .i64 p.y, .int .i64 p.id]) [5, 6, 7] rfl rfl (by kernel_rfl) (by kernel_rfl) (by kernel_rfl) (by kernel_rfl) (fun _ _ _ h => h) hS (Or.inl ⟨rfl, fun w1 hw1 => by obtain ⟨⟨q1, q2, q3⟩, ⟨c0, c1, c2, c3, c4, c5, c6, c7, c8⟩⟩ := hw1; go_simp⟩) ?_
        simp only [Act.put, List.setIfInBounds_toArray, List.set_cons_zero, List.set_cons_succ]
        refine wpAnyK_one (i := 5) (by kernel_rfl) rfl rfl ?_
        have hyc : y ∈ l.pts := by
          have hay : aheadP p f ↔ aheadP y f := by unfold aheadP; rw [HY.out.2.1, HY.out.2.2]
          rcases List.mem_append.1 HYM.out with h | h
          · exact h
          · exact absurd (hay.1 ha) (HOK.out.2.2.1 y h)
        have hcut := HIL.out U9 base _ Sl HA9.out.tl HOK.out.2.2.2.1 (List.Pairwise.sublist (List.sublist_append_left _ _) (List.pairwise_cons.1 HID.out).2) (by have := HSZ.out; omega) (by have := HA9.out.fr.size; have := HB.out; have := HGP.out; omega) p y hyc HY.out.2.1 HY.out.2.2
        unfold Pt.agg at hcut
        refine wp_call_to (some 31) rfl 20 #[.pointer la, .agg #[.int .i64 p.x, .int .i64 p.y, .int .i64 p.id]] (by go_simp) hcut ?_
        rintro e U10 ⟨t1, v1, S1, rfl, ht1, hok1, hp1, hS1, hf1⟩
        obtain ⟨na, rfl⟩ := ht1.ptr
        have hgS : ¬ Sl g := HD.out.1
        have hbS : ¬ Sl gp := fun h => by have := HLL.out _ h; have := HGP.out; omega
        have h10n : NodeAt U10 g t0 f (.pointer la) (.pointer ra) M := HA9.out.no.fr hf1 hgS
        have h10b : BoxAt U10 gp p := HA9.out.bx.fr hf1 hbS
        have hS2 : (fun U : World => PtAt U gp 0 p ∧ NodeC U g t0 f (.pointer la) (.pointer ra) M) U10 := ⟨h10b.pt, h10n.c⟩
        refine ⟨_, rfl, fun _ => hS2, ?_⟩
        simp only [Act.put, List.setIfInBounds_toArray, List.set_cons_zero, List.set_cons_succ]
        have HFI := hide (CS.fin (n := nn) true (by have h8 := HA9.out; rw [HNN.out.2] at h8; exact h8) HS0.out HD.out (by have := HG.out; have := HGP.out; exact ⟨by omega, by omega⟩) (fun k hk => by have := HLL.out k hk; have := HGP.out; omega) (fun k hk => by have := HRR.out k hk; have := HGP.out; omega) HOK.out HID.out HSZ.out HNN.out.1 (by have := HB.out; have := HGP.out; omega) ht1 hok1 (by simpa using hp1) (by simpa using hS1) (by simpa using hf1))
        simp only [if_true, Bool.false_eq_true, if_false] at HFI
        obtain ⟨e0, e1, e2, e3, e4, e5, e6, e7, e8⟩ := h10n.c
        have zz := h10n.frozen 6
        clear ht1 hok1 hp1 hS1 hf1 hS hS2 h10n h10b hcut HA9 hyc
        refine wpAnyK_one (i := 6) (by kernel_rfl) rfl rfl ?_
        go_simp
        refine wpAnyK_one (i := 7) (by kernel_rfl) rfl rfl ?_
        go_simp
        refine wpAnyK_done (by kernel_rfl) ?_ _
        go_wp2_with fail
        refine HFI.out.mono ?_
        rintro e U12 hres
        obtain ⟨_, v12, _, rfl, _⟩ := id hres
        have HRES := hide hres
        clear hres HFI e0 e1 e2 e3 e4 e5 e6 e7 e8 zz
        go_wp2
        go_ret
        exact HRES.out
      ·
        rw [if_neg ha] at HSI
        go_wp2_with (rw [← HU7.out])
        refine HSI.out.mono ?_
        rintro e U8 ⟨rfl, f8⟩
        have HA8 := hide (HA7.out.same f8)
        clear f8 HSI HA7 x1 x2 x3 c0 c1 c2 c3 c4 c5 c6 c7 c8 z8 y1 y2 y3 HU7 HSD HA1
        go_wp2_with fail
        refine wp_region_K (fun z => decide (z < 6)) (fun U : World => PtAt U gp 0 p ∧ NodeC U g t0 f (.pointer la) (.pointer ra) M) (by kernel_rfl) ?_
        have HA9 := hide (HA8.out.same (Fr.drew U8 (fun _ => False)))
        clear HA8
        generalize U8.drew = U9 at *
        have hS : (fun U : World => PtAt U gp 0 p ∧ NodeC U g t0 f (.pointer la) (.pointer ra) M) U9 := ⟨HA9.out.bx.pt, HA9.out.no.c⟩
        refine wpAnyK_takeTo 0 (some 26) (.pointer (some ⟨g, 7, none⟩)) [6, 7] rfl rfl (by kernel_rfl) (by kernel_rfl) (by kernel_rfl) (by kernel_rfl) (fun _ _ _ h => h) hS (Or.inl ⟨rfl, fun w1 hw1 => by obtain ⟨⟨q1, q2, q3⟩, ⟨c0, c1, c2, c3, c4, c5, c6, c7, c8⟩⟩ := hw1; go_simp⟩) ?_
        simp only [Act.put, List.setIfInBounds_toArray, List.set_cons_zero, List.set_cons_succ]
        refine wpAnyK_takeTo 1 (some 27) (.pointer (some ⟨g, 7, none⟩)) [2, 3, 5, 6, 7] rfl rfl (by kernel_rfl) (by kernel_rfl) (by kernel_rfl) (by kernel_rfl) (fun _ _ _ h => h) hS (Or.inl ⟨rfl, fun w1 hw1 => by obtain ⟨⟨q1, q2, q3⟩, ⟨c0, c1, c2, c3, c4, c5, c6, c7, c8⟩⟩ := hw1; go_simp⟩) ?_
        simp only [Act.put, List.setIfInBounds_toArray, List.set_cons_zero, List.set_cons_succ]
        refine wpAnyK_takeTo 2 (some 28) (.pointer (some ⟨g, 7, none⟩)) [3, 5, 6, 7] rfl rfl (by kernel_rfl) (by kernel_rfl) (by kernel_rfl) (by kernel_rfl) (fun _ _ _ h => h) hS (Or.inl ⟨rfl, fun w1 hw1 => by obtain ⟨⟨q1, q2, q3⟩, ⟨c0, c1, c2, c3, c4, c5, c6, c7, c8⟩⟩ := hw1; go_simp⟩) ?_
        simp only [Act.put, List.setIfInBounds_toArray, List.set_cons_zero, List.set_cons_succ]
        refine wpAnyK_takeTo 3 (some 29) (.pointer ra) [5, 6, 7] rfl rfl (by kernel_rfl) (by kernel_rfl) (by kernel_rfl) (by kernel_rfl) (fun _ _ _ h => h) hS (Or.inl ⟨rfl, fun w1 hw1 => by obtain ⟨⟨q1, q2, q3⟩, ⟨c0, c1, c2, c3, c4, c5, c6, c7, c8⟩⟩ := hw1; go_simp⟩) ?_
        simp only [Act.put, List.setIfInBounds_toArray, List.set_cons_zero, List.set_cons_succ]
        refine wpAnyK_takeTo 4 (some 30) (.agg #[.int .i64 p.x, .int .i64 p.y, .int .i64 p.id]) [5, 6, 7] rfl rfl (by kernel_rfl) (by kernel_rfl) (by kernel_rfl) (by kernel_rfl) (fun _ _ _ h => h) hS (Or.inl ⟨rfl, fun w1 hw1 => by obtain ⟨⟨q1, q2, q3⟩, ⟨c0, c1, c2, c3, c4, c5, c6, c7, c8⟩⟩ := hw1; go_simp⟩) ?_
        simp only [Act.put, List.setIfInBounds_toArray, List.set_cons_zero, List.set_cons_succ]
        refine wpAnyK_one (i := 5) (by kernel_rfl) rfl rfl ?_
        have hyc : y ∈ r.pts := by
          have hay : aheadP p f ↔ aheadP y f := by unfold aheadP; rw [HY.out.2.1, HY.out.2.2]
          rcases List.mem_append.1 HYM.out with h | h
          · exact absurd (hay.2 (HOK.out.2.1 y h)) ha
          · exact h
        have hcut := HIR.out U9 base _ Sr HA9.out.tr HOK.out.2.2.2.2 (List.Pairwise.sublist (List.sublist_append_right _ _) (List.pairwise_cons.1 HID.out).2) (by have := HSZ.out; omega) (by have := HA9.out.fr.size; have := HB.out; have := HGP.out; omega) p y hyc HY.out.2.1 HY.out.2.2
        unfold Pt.agg at hcut
        refine wp_call_to (some 31) rfl 20 #[.pointer ra, .agg #[.int .i64 p.x, .int .i64 p.y, .int .i64 p.id]] (by go_simp) hcut ?_
        rintro e U10 ⟨t1, v1, S1, rfl, ht1, hok1, hp1, hS1, hf1⟩
        obtain ⟨na, rfl⟩ := ht1.ptr
        have hgS : ¬ Sr g := HD.out.2.1
        have hbS : ¬ Sr gp := fun h => by have := HRR.out _ h; have := HGP.out; omega
        have h10n : NodeAt U10 g t0 f (.pointer la) (.pointer ra) M := HA9.out.no.fr hf1 hgS
        have h10b : BoxAt U10 gp p := HA9.out.bx.fr hf1 hbS
        have hS2 : (fun U : World => PtAt U gp 0 p ∧ NodeC U g t0 f (.pointer la) (.pointer ra) M) U10 := ⟨h10b.pt, h10n.c⟩
        refine ⟨_, rfl, fun _ => hS2, ?_⟩
        simp only [Act.put, List.setIfInBounds_toArray, List.set_cons_zero, List.set_cons_succ]
        have HFI := hide (CS.fin (n := nn) false (by have h8 := HA9.out; rw [HNN.out.2] at h8; exact h8) HS0.out HD.out (by have := HG.out; have := HGP.out; exact ⟨by omega, by omega⟩) (fun k hk => by have := HLL.out k hk; have := HGP.out; omega) (fun k hk => by have := HRR.out k hk; have := HGP.out; omega) HOK.out HID.out HSZ.out HNN.out.1 (by have := HB.out; have := HGP.out; omega) ht1 hok1 (by simpa using hp1) (by simpa using hS1) (by simpa using hf1))
        simp only [if_true, Bool.false_eq_true, if_false] at HFI
        obtain ⟨e0, e1, e2, e3, e4, e5, e6, e7, e8⟩ := h10n.c
        have zz := h10n.frozen 7
        clear ht1 hok1 hp1 hS1 hf1 hS hS2 h10n h10b hcut HA9 hyc
        refine wpAnyK_one (i := 6) (by kernel_rfl) rfl rfl ?_
        go_simp
        refine wpAnyK_one (i := 7) (by kernel_rfl) rfl rfl ?_
        go_simp
        refine wpAnyK_done (by kernel_rfl) ?_ _
        go_wp2_with fail
        refine HFI.out.mono ?_
        rintro e U12 hres
        obtain ⟨_, v12, _, rfl, _⟩ := id hres
        have HRES := hide hres
        clear hres HFI e0 e1 e2 e3 e4 e5 e6 e7 e8 zz
        go_wp2
        go_ret
        exact HRES.out
end Go.Proofs.YtigkinakhijfoaaGreat.Ps
