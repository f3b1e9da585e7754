/- Rows of points; points, find. -/
import Derived.Test.YtklnaeldhdhmiaaD
namespace Go.Proofs.Ytklnaeldhdhmiaa
open Go.RowKit Go.Sort
set_option maxRecDepth 100000
set_option linter.unusedVariables false
set_option linter.unusedSimpArgs false

def encPs (L : List Pt) : List Value := L.flatMap ptc
theorem length_encPs (L : List Pt) : (encPs L).length = L.length * 3 := by
  induction L with
  | nil => rfl
  | cons x L ih => simp only [encPs, List.flatMap_cons, List.length_append, List.length_cons] at *; rw [ih]; simp [ptc]; omega
theorem encPs_append (L M : List Pt) : encPs (L ++ M) = encPs L ++ encPs M := by simp [encPs]
def OwnPt (w : World) (v : Value) (L : List Pt) : Prop := w.ownsRow 0 28 3 v L.length (encPs L)
theorem OwnPt.nil (w : World) : OwnPt w (.slice none 0 0) [] := World.ownsRow_nil w 0 28 3
theorem OwnPt.fr {w w' : World} {X : Nat → Prop} {v : Value} {L : List Pt} (h : OwnPt w v L) (hf : Fr w w' X) (hx : ∀ k, v.ownBlock = some k → ¬ X k) : OwnPt w' v L := ownsRow_fr h hf hx
theorem full28 : ∃ i, Try.prog.info? 28 = some i ∧ i.zero = some (.agg #[.int .i64 0, .int .i64 0, .int .i64 0]) ∧ i.size = 3 ∧ i.bytes = 24 := by
  have h0 : (Try.prog.info? 28).isSome = true := by kernel_rfl
  have h1 : (Try.prog.info? 28).bind (·.zero) = some (.agg #[.int .i64 0, .int .i64 0, .int .i64 0]) := by kernel_rfl
  have h2 : (Try.prog.info? 28).map (·.size) = some 3 := by kernel_rfl
  have h3 : (Try.prog.info? 28).map (·.bytes) = some 24 := by kernel_rfl
  obtain ⟨i, hi⟩ := Option.isSome_iff_exists.1 h0
  rw [hi] at h1 h2 h3
  exact ⟨i, hi, h1, Option.some.inj h2, Option.some.inj h3⟩
/-- A row that is not there before: its block is the old one's, or new. -/
theorem Fresh.back {w0 w : World} {v v' : Value} (h : Fresh w v v') (hs : w0.heap.size ≤ w.heap.size) {k : Nat} (hk : k < w0.heap.size) (hv : v'.ownBlock = some k) : v.ownBlock = some k := by
  rcases h with h | ⟨q, h1, h2⟩
  · rw [← h]; exact hv
  · rw [h1] at hv; cases hv; omega
theorem Fresh.trans {w w1 : World} {u v x : Value} (h1 : Fresh w u v) (h2 : Fresh w1 v x) (hs : w.heap.size ≤ w1.heap.size) : Fresh w u x := by
  rcases h2 with h2 | ⟨q, h2, h3⟩
  · rcases h1 with h1 | ⟨q, h1, h4⟩
    · exact .inl (h2.trans h1)
    · exact .inr ⟨q, h2.trans h1, h4⟩
  · exact .inr ⟨q, h2, Nat.le_trans hs h3⟩
theorem app_pt {w : World} {v : Value} {L : List Pt} {p : Pt} (hown : OwnPt w v L) (g : Nat) (hp : PtAt w g 0 p) (ty : TypeId) (hn : L.length + 1 ≤ 2199023255552) :
    ∃ v' w', (Builtin.append_ #[35, 35] ty #[v, .slice (some ⟨g, 0, none⟩) 1 1]).run Try.prog w = .ok v' w' ∧ OwnPt w' v' (L ++ [p]) ∧ Fr w w' (fun k => v.ownBlock = some k) ∧ Fresh w v v' := by
  obtain ⟨i, hi, hz, hs, hb⟩ := full28
  obtain ⟨v', w', hr, q1, q2, q3⟩ := run_append_gen (P := Try.prog) w 35 ty 28 i _ 3 24 Try.underlying35 hi hz hs hb rfl (by omega) v L.length (encPs L) hown ⟨g, 0, none⟩ 1 1 (ptc p) rfl (fun j u hu => by
    rw [Addr.add_mid, Nat.zero_add]
    match j, hu with
    | 0, hu => cases hu; exact hp.1
    | 1, hu => cases hu; exact hp.2.1
    | 2, hu => cases hu; exact hp.2.2) (fun u hu => by simp [ptc] at hu; rcases hu with rfl | rfl | rfl <;> rfl) (by unfold maxLen; omega) (by omega)
  refine ⟨v', w', hr, ?_, Fr.grown q2, q3⟩
  unfold OwnPt
  rw [List.length_append, encPs_append]
  simpa [encPs] using q1
theorem TreeAt.ptr {w : World} {base : Nat} {t : PT} {v : Value} {S : Nat → Prop} (h : TreeAt w base t v S) : ∃ a, v = .pointer a := by
  cases t with
  | nil => exact ⟨none, h.1⟩
  | node p f l r => obtain ⟨g, _, _, _, _, h1, _⟩ := h; exact ⟨_, h1⟩
set_option maxHeartbeats 4000000 in
theorem points_any : ∀ (t : PT) (w : World) (base : Nat) (v : Value) (S : Nat → Prop) (h : TreeAt w base t v S) (lv : Value) (L : List Pt) (hL : OwnPt w lv L) (hd : ∀ k, lv.ownBlock = some k → ¬ S k) (hn : L.length + t.size ≤ 2199023255552),
    Calls Try.prog 45 #[v, lv] w fun e w' => ∃ lv', e = .returned lv' ∧ OwnPt w' lv' (L ++ t.pts) ∧ Fr w w' (fun k => lv.ownBlock = some k) ∧ Fresh w lv lv' := by
  intro t
  induction t with
  | nil =>
    intro w base v S h lv L hL hd hn
    obtain ⟨rfl, _⟩ := h
    obtain ⟨a, c, rfl⟩ := shape_n hL
    go_enter Try.func45, Try.ntmps45
    go_wp2
    go_ret
    exact ⟨_, rfl, by simpa [PT.pts] using hL, Fr.refl _ _, .inl rfl⟩
  | node p f l r ihl ihr =>
    intro w base v S h lv L hL hd hn
    obtain ⟨g, cl, cr, Sl, Sr, rfl, hg, hN, hl, hr, d1, d2, d3, hS0⟩ := h
    obtain ⟨la, rfl⟩ := hl.ptr
    obtain ⟨ra, rfl⟩ := hr.ptr
    obtain ⟨a, c, rfl⟩ := shape_n hL
    have hltw : ∀ k, k = g ∨ Sl k ∨ Sr k → k < w.heap.size := fun k hk => by
      rcases hk with rfl | hk | hk
      · exact (Array.getElem?_eq_some_iff.1 hN).1
      · exact (hl.lt k hk).2
      · exact (hr.lt k hk).2
    have HLT := hide hltw
    have HD : Hid (∀ k, (Value.slice a L.length c).ownBlock = some k → ¬ (k = g ∨ Sl k ∨ Sr k)) := hide (fun k hk h => hd k hk ((hS0 k).2 h))
    have hsz : (PT.node p f l r).size = l.size + r.size + 1 := rfl
    rw [hsz] at hn
    have F0 := Fr.drew w (fun _ => False)
    have HLD := hide (hl.fr F0 (fun _ _ h => h))
    have HRD := hide (hr.fr F0 (fun _ _ h => h))
    have HOD := hide (OwnPt.fr hL F0 (fun _ _ h => h))
    have HF0 := hide F0
    have HC := hide (hN.c.fr F0 (fun h => h))
    have HX3 := hide d3
    have HIL := hide ihl
    have HIR := hide ihr
    have HNN := hide hn
    generalize l.size + r.size + 1 = n at HC
    have HLEN1 : Hid ((L ++ [p]).length + l.size ≤ 2199023255552) := hide (by rw [List.length_append]; simp only [List.length_singleton]; omega)
    have HLEN2 : Hid ((L ++ [p] ++ l.pts).length + r.size ≤ 2199023255552) := hide (by rw [List.length_append, List.length_append, PT.length_pts]; simp only [List.length_singleton]; omega)
    clear hltw hd hS0 hsz hl hr hL hN F0 d3 ihl ihr hn
    go_enter Try.func45, Try.ntmps45
    go_wp2_with fail
    refine wp_region_K (fun z => decide (z < 16)) (fun U : World => NodeC U g p f (.pointer la) (.pointer ra) n) (by kernel_rfl) ?_
    have hS : (fun U : World => NodeC U g p f (.pointer la) (.pointer ra) n) w.drew := HC.out
    clear HC
    generalize w.drew = U at *
    refine wpAnyK_takeTo 0 (some 8) (.pointer (some ⟨g, 0, none⟩)) [1, 2, 3, 16, 17] rfl rfl (by kernel_rfl) (by kernel_rfl) (by kernel_rfl) (by kernel_rfl) (fun _ _ _ h => h) hS (Or.inl ⟨rfl, fun w1 hw1 => by obtain ⟨c0, c1, c2, c3, c4, c5, c6, c7, c8⟩ := hw1; go_simp⟩) ?_
    simp only [Act.put, List.setIfInBounds_toArray, List.set_cons_zero, List.set_cons_succ]
    refine wpAnyK_takeTo 1 (some 9) (.pointer (some ⟨g, 0, none⟩)) [2, 3, 16, 17] rfl rfl (by kernel_rfl) (by kernel_rfl) (by kernel_rfl) (by kernel_rfl) (fun _ _ _ h => h) hS (Or.inl ⟨rfl, fun w1 hw1 => by obtain ⟨c0, c1, c2, c3, c4, c5, c6, c7, c8⟩ := hw1; go_simp⟩) ?_
    simp only [Act.put, List.setIfInBounds_toArray, List.set_cons_zero, List.set_cons_succ]
    refine wpAnyK_takeTo 2 (some 10) (.pointer (some ⟨g, 7, none⟩)) [3, 16, 17] rfl rfl (by kernel_rfl) (by kernel_rfl) (by kernel_rfl) (by kernel_rfl) (fun _ _ _ h => h) hS (Or.inl ⟨rfl, fun w1 hw1 => by obtain ⟨c0, c1, c2, c3, c4, c5, c6, c7, c8⟩ := hw1; go_simp⟩) ?_
    simp only [Act.put, List.setIfInBounds_toArray, List.set_cons_zero, List.set_cons_succ]
    refine wpAnyK_takeTo 3 (some 11) (.pointer ra) [16, 17] rfl rfl (by kernel_rfl) (by kernel_rfl) (by kernel_rfl) (by kernel_rfl) (fun _ _ _ h => h) hS (Or.inl ⟨rfl, fun w1 hw1 => by obtain ⟨c0, c1, c2, c3, c4, c5, c6, c7, c8⟩ := hw1; go_simp⟩) ?_
    simp only [Act.put, List.setIfInBounds_toArray, List.set_cons_zero, List.set_cons_succ]
    refine wpAnyK_takeTo 4 (some 12) (.pointer (some ⟨g, 0, none⟩)) [5, 6, 7, 15, 16, 17] rfl rfl (by kernel_rfl) (by kernel_rfl) (by kernel_rfl) (by kernel_rfl) (fun _ _ _ h => h) hS (Or.inl ⟨rfl, fun w1 hw1 => by obtain ⟨c0, c1, c2, c3, c4, c5, c6, c7, c8⟩ := hw1; go_simp⟩) ?_
    simp only [Act.put, List.setIfInBounds_toArray, List.set_cons_zero, List.set_cons_succ]
    refine wpAnyK_takeTo 5 (some 13) (.pointer (some ⟨g, 0, none⟩)) [6, 7, 15, 16, 17] rfl rfl (by kernel_rfl) (by kernel_rfl) (by kernel_rfl) (by kernel_rfl) (fun _ _ _ h => h) hS (Or.inl ⟨rfl, fun w1 hw1 => by obtain ⟨c0, c1, c2, c3, c4, c5, c6, c7, c8⟩ := hw1; go_simp⟩) ?_
    simp only [Act.put, List.setIfInBounds_toArray, List.set_cons_zero, List.set_cons_succ]
    refine wpAnyK_takeTo 6 (some 14) (.pointer (some ⟨g, 6, none⟩)) [7, 15, 16, 17] rfl rfl (by kernel_rfl) (by kernel_rfl) (by kernel_rfl) (by kernel_rfl) (fun _ _ _ h => h) hS (Or.inl ⟨rfl, fun w1 hw1 => by obtain ⟨c0, c1, c2, c3, c4, c5, c6, c7, c8⟩ := hw1; go_simp⟩) ?_
    simp only [Act.put, List.setIfInBounds_toArray, List.set_cons_zero, List.set_cons_succ]
    refine wpAnyK_takeTo 7 (some 15) (.pointer la) [15, 16, 17] rfl rfl (by kernel_rfl) (by kernel_rfl) (by kernel_rfl) (by kernel_rfl) (fun _ _ _ h => h) hS (Or.inl ⟨rfl, fun w1 hw1 => by obtain ⟨c0, c1, c2, c3, c4, c5, c6, c7, c8⟩ := hw1; go_simp⟩) ?_
    simp only [Act.put, List.setIfInBounds_toArray, List.set_cons_zero, List.set_cons_succ]
    refine wpAnyK_takeTo 8 (some 16) (.slice a L.length c) [14, 15, 16, 17] rfl rfl (by kernel_rfl) (by kernel_rfl) (by kernel_rfl) (by kernel_rfl) (fun _ _ _ h => h) hS (Or.inl ⟨rfl, fun w1 hw1 => by obtain ⟨c0, c1, c2, c3, c4, c5, c6, c7, c8⟩ := hw1; go_simp⟩) ?_
    simp only [Act.put, List.setIfInBounds_toArray, List.set_cons_zero, List.set_cons_succ]
    refine wpAnyK_takeTo 9 (some 17) (.pointer (some ⟨g, 0, none⟩)) [10, 11, 12, 13, 14, 15, 16, 17] rfl rfl (by kernel_rfl) (by kernel_rfl) (by kernel_rfl) (by kernel_rfl) (fun _ _ _ h => h) hS (Or.inl ⟨rfl, fun w1 hw1 => by obtain ⟨c0, c1, c2, c3, c4, c5, c6, c7, c8⟩ := hw1; go_simp⟩) ?_
    simp only [Act.put, List.setIfInBounds_toArray, List.set_cons_zero, List.set_cons_succ]
    refine wpAnyK_takeTo 10 (some 18) (.pointer (some ⟨g, 0, none⟩)) [11, 12, 13, 14, 15, 16, 17] rfl rfl (by kernel_rfl) (by kernel_rfl) (by kernel_rfl) (by kernel_rfl) (fun _ _ _ h => h) hS (Or.inl ⟨rfl, fun w1 hw1 => by obtain ⟨c0, c1, c2, c3, c4, c5, c6, c7, c8⟩ := hw1; go_simp⟩) ?_
    simp only [Act.put, List.setIfInBounds_toArray, List.set_cons_zero, List.set_cons_succ]
    refine wpAnyK_takeTo 11 (some 19) (.pointer (some ⟨g, 0, none⟩)) [12, 13, 14, 15, 16, 17] rfl rfl (by kernel_rfl) (by kernel_rfl) (by kernel_rfl) (by kernel_rfl) (fun _ _ _ h => h) hS (Or.inl ⟨rfl, fun w1 hw1 => by obtain ⟨c0, c1, c2, c3, c4, c5, c6, c7, c8⟩ := hw1; go_simp⟩) ?_
    simp only [Act.put, List.setIfInBounds_toArray, List.set_cons_zero, List.set_cons_succ]
    refine wpAnyK_takeTo 12 (some 20) (.agg #[.int .i64 p.x, .int .i64 p.y, .int .i64 p.id]) [13, 14, 15, 16, 17] rfl rfl (by kernel_rfl) (by kernel_rfl) (by kernel_rfl) (by kernel_rfl) (fun _ _ _ h => h) hS (Or.inl ⟨rfl, fun w1 hw1 => by obtain ⟨c0, c1, c2, c3, c4, c5, c6, c7, c8⟩ := hw1; go_simp⟩) ?_
    simp only [Act.put, List.setIfInBounds_toArray, List.set_cons_zero, List.set_cons_succ]
    refine wpAnyK_one (i := 13) (by kernel_rfl) rfl rfl ?_
    have F1 := Fr.alloc U (.cells #[.int .i64 p.x, .int .i64 p.y, .int .i64 p.id] 28) (fun _ => False)
    have hS1 := hS.fr F1 (fun h => h)
    have hp1 := box_pt U p
    obtain ⟨v1, U2, hr2, o2, f2, s2⟩ := app_pt (OwnPt.fr HOD.out F1 (fun _ _ h => h)) U.heap.size hp1 35 (by have := HNN.out; omega)
    go_simp
    refine wpAnyK_one (i := 14) (by kernel_rfl) rfl rfl ?_
    refine wp_append_to (.tmp 16) (.tmp 21) 35 rfl _ rfl _ rfl _ _ rfl rfl _ _ hr2 ?_
    have hU0 := HF0.out.size
    have hU1 := F1.size
    have hs2 : Fresh w (.slice a L.length c) v1 := by
      rcases s2 with h | ⟨k, h, h2⟩
      · exact .inl h
      · exact .inr ⟨k, h, by omega⟩
    have F2 := ((HF0.out.trans F1).trans f2).mono (Y := fun k => (Value.slice a L.length c).ownBlock = some k) (fun k _ h => by rcases h with (h | h) | h; exact h.elim; exact h.elim; exact h)
    have FU2 := (F1.trans f2).mono (Y := fun k => (Value.slice a L.length c).ownBlock = some k) (fun k _ h => by rcases h with h | h; exact h.elim; exact h)
    have hv1 : ∀ k, v1.ownBlock = some k → ¬ (k = g ∨ Sl k ∨ Sr k) := fun k hk h => by
      have hlt := HLT.out k h
      exact HD.out k (hs2.back (Nat.le_refl _) hlt hk) h
    have hS2 : NodeC U2 g p f (.pointer la) (.pointer ra) n := hS1.fr f2 (fun h => HD.out g h (.inl rfl))
    have HL2 := hide (HLD.out.fr FU2 (fun k hk h => HD.out k h (.inr (.inl hk))))
    have HR2 := hide (HRD.out.fr FU2 (fun k hk h => HD.out k h (.inr (.inr hk))))
    refine ⟨fun _ => hS2, ?_⟩
    simp only [Act.put, List.setIfInBounds_toArray, List.set_cons_zero, List.set_cons_succ]
    clear hr2 f2 s2 F1 hp1 hS hS1 HOD HLD HRD FU2
    refine wpAnyK_one (i := 15) (by kernel_rfl) rfl rfl ?_
    refine wp_call_to (some 23) rfl 45 #[.pointer la, v1] (by go_simp) (HIL.out _ _ _ _ HL2.out v1 (L ++ [p]) o2 (fun k hk h => hv1 k hk (.inr (.inl h))) HLEN1.out) ?_
    rintro e U3 ⟨v2, rfl, o3, f3, s3⟩
    refine ⟨_, rfl, ?_⟩
    have hS3 : NodeC U3 g p f (.pointer la) (.pointer ra) n := hS2.fr f3 (fun h => hv1 g h (.inl rfl))
    have HR3 := hide (HR2.out.fr f3 (fun k hk h => hv1 k h (.inr (.inr hk))))
    have hs3 : Fresh w (.slice a L.length c) v2 := hs2.trans s3 F2.size
    have F3 := (F2.trans f3).mono (Y := fun k => (Value.slice a L.length c).ownBlock = some k) (fun k hk h => by rcases h with h | h; exact h; exact hs2.back (Nat.le_refl _) hk h)
    refine ⟨fun _ => hS3, ?_⟩
    simp only [Act.put, List.setIfInBounds_toArray, List.set_cons_zero, List.set_cons_succ]
    refine wpAnyK_one (i := 16) (by kernel_rfl) rfl rfl ?_
    refine wp_call_to (some 24) rfl 45 #[.pointer ra, v2] (by go_simp) (HIR.out _ _ _ _ HR3.out v2 (L ++ [p] ++ l.pts) o3 (fun k hk h => by
      have hlt := HLT.out k (.inr (.inr h))
      exact HD.out k (hs3.back (Nat.le_refl _) hlt hk) (.inr (.inr h))) HLEN2.out) ?_
    rintro e U4 ⟨v3, rfl, o4, f4, s4⟩
    refine ⟨_, rfl, fun h => by simp at h, ?_⟩
    simp only [Act.put, List.setIfInBounds_toArray, List.set_cons_zero, List.set_cons_succ]
    have hs4 : Fresh w (.slice a L.length c) v3 := hs3.trans s4 F3.size
    have F4 := (F3.trans f4).mono (Y := fun k => (Value.slice a L.length c).ownBlock = some k) (fun k hk h => by rcases h with h | h; exact h; exact hs3.back (Nat.le_refl _) hk h)
    have HRES := hide (And.intro (show OwnPt U4 v3 (L ++ (PT.node p f l r).pts) by simpa [PT.pts] using o4) (And.intro F4 hs4))
    clear o2 o3 o4 f3 f4 s3 s4 hs2 hs3 hs4 F2 F3 F4 hS2 hS3 hv1
    refine wpAnyK_one (i := 17) (by kernel_rfl) rfl rfl ?_
    go_simp
    refine wpAnyK_done (by kernel_rfl) ?_ _
    go_wp2
    go_ret
    exact ⟨_, rfl, HRES.out.1, HRES.out.2.1, HRES.out.2.2⟩
end Go.Proofs.Ytklnaeldhdhmiaa
