/- The calls once more: answers are rows of their own, which may be changed. -/
import Derived.Test.YtdeopneififnnaaPb
namespace Go.Proofs.Ytdeopneififnnaa
open Go.RowKit
set_option maxRecDepth 100000
set_option linter.unusedVariables false
set_option linter.unusedSimpArgs false

/-- A table whose columns and keys are rows of its own. -/
def RowT (w : World) (t : Tb) : Prop := w.ownsRow 0 37 2 (.slice t.ca t.cn t.cc) t.cn (encC t.C) ∧ w.ownsRow 0 9 1 (.slice t.ka t.kn t.kc) t.kn (t.K.map Value.string)
theorem TabIn.ownC {P : Nat → Prop} {w : World} {t : Tb} (h : TabIn P w t) {k : Nat} (hk : (Value.slice t.ca t.cn t.cc).ownBlock = some k) : P k := by
  rcases h.cs with ⟨h1, _⟩ | ⟨g, off, h1, h2, _⟩
  · rw [h1] at hk; cases hk
  · rw [h1] at hk; cases hk; exact h2
theorem TabIn.ownK {P : Nat → Prop} {w : World} {t : Tb} (h : TabIn P w t) {k : Nat} (hk : (Value.slice t.ka t.kn t.kc).ownBlock = some k) : P k := by
  rcases h.ks with ⟨h1, _⟩ | ⟨g, off, h1, h2, _⟩
  · rw [h1] at hk; cases hk
  · rw [h1] at hk; cases hk; exact h2
theorem RowT.fr {P X : Nat → Prop} {w w' : World} {t : Tb} (h : RowT w t) (ht : TabIn P w t) (hf : Fr w w' X) (hx : ∀ k, P k → ¬ X k) : RowT w' t :=
  ⟨ownsRow_fr h.1 hf (fun k hk => hx k (ht.ownC hk)), ownsRow_fr h.2 hf (fun k hk => hx k (ht.ownK hk))⟩
set_option maxHeartbeats 2000000 in
theorem cloneC_row {P : Nat → Prop} {w : World} (a : Option Addr) (n c : Nat) (C : List Cn) (hC : ColsIn P w a C) (hn : C.length = n) (hb : n ≤ 1048576) (hs : Sh P w a n c) : Calls Try.prog 50 #[.slice a n c] w fun e w' => ∃ a' c', e = .returned (.slice a' n c') ∧ ColsIn (fun g => w.heap.size ≤ g) w' a' C ∧ Sh (fun g => w.heap.size ≤ g) w' a' n c' ∧ w'.ownsRow 0 37 2 (.slice a' n c') n (encC C) ∧ Fr w w' (fun _ => False) := by
  rcases hs with ⟨rfl, rfl, rfl⟩ | ⟨g, off, rfl, _, _⟩
  · have hC0 : C = [] := List.eq_nil_of_length_eq_zero hn
    have HC := hide hC0
    have heq := fun w1 => run_eql_nil27 w1 none 0 0
    clear hC hn hC0
    go_enter Try.func50, Try.ntmps50
    go_wp2
    go_ret
    exact ⟨none, 0, rfl, by rw [HC.out]; intro i x hi; simp at hi, .inl ⟨rfl, rfl, rfl⟩, by rw [HC.out]; exact World.ownsRow_nil _ 0 37 2, Fr.refl _ _⟩
  · have FA := Fr.alloc w (.cells #[] 37) (fun _ => False)
    obtain ⟨i, hi, hz, hsz, hby⟩ := full37
    obtain ⟨v', W', hr, q1, q2, q3⟩ := run_append_gen (P := Try.prog) (w.alloc (.cells #[] 37)) 27 27 37 i _ 2 24 Try.underlying27 hi hz hsz hby rfl (by omega) _ 0 [] (row_empty w 37 2) ⟨g, off, none⟩ n c (encC C) (by rw [encC_length, hn]) (encC_cells (hC.fr FA (fun _ _ h => h))) (encC_one C) (by unfold maxLen; omega) (by omega)
    rw [Nat.zero_add, List.nil_append] at q1
    obtain ⟨a', c', rfl⟩ := shape_n q1
    have hfresh : ∀ k, (Value.slice a' n c').ownBlock = some k → w.heap.size ≤ k := fun k hk => by
      rcases q3 with q | ⟨p, q, hp⟩
      · rw [q] at hk; cases hk; exact Nat.le_refl _
      · rw [q] at hk; cases hk; have := FA.size; omega
    have HQ1 := hide q1
    have HR := hide (own_cols q1 hfresh)
    have HF := hide ((FA.trans (Fr.grown q2)).mono (Y := fun _ => False) (fun k hk h => by
      rcases h with h | h
      · exact h
      · have := Option.some.inj h; simp only [] at this; omega))
    have heq := fun w1 => run_eql_nil27 w1 (some ⟨g, off, none⟩) n c
    have hem := empty27
    clear hC hn FA q1 q2 q3 hfresh
    go_enter Try.func50, Try.ntmps50
    go_wp2_with (refine wpList_plain rfl fun _ hK => wp_append_to (.tmp 5) (.tmp 6) 27 rfl _ rfl _ rfl (.slice (some ⟨w.heap.size, 0, none⟩) 0 0) (.slice (some ⟨g, off, none⟩) n c) rfl rfl _ _ hr (hK _ _ ?_); clear hK)
    go_ret
    exact ⟨a', c', rfl, HR.out.1, HR.out.2, HQ1.out, HF.out⟩
set_option maxHeartbeats 2000000 in
theorem cloneS_row {P : Nat → Prop} {w : World} (a : Option Addr) (n c : Nat) (L : List ByteArray) (hL : StrsIn P w a L) (hn : L.length = n) (hb : n ≤ 1048576) (hs : Sh P w a n c) : Calls Try.prog 51 #[.slice a n c] w fun e w' => ∃ a' c', e = .returned (.slice a' n c') ∧ StrsIn (fun g => w.heap.size ≤ g) w' a' L ∧ Sh (fun g => w.heap.size ≤ g) w' a' n c' ∧ w'.ownsRow 0 9 1 (.slice a' n c') n (L.map Value.string) ∧ Fr w w' (fun _ => False) := by
  rcases hs with ⟨rfl, rfl, rfl⟩ | ⟨g, off, rfl, _, _⟩
  · have hL0 : L = [] := List.eq_nil_of_length_eq_zero hn
    have HC := hide hL0
    have heq := fun w1 => run_eql_nil28 w1 none 0 0
    clear hL hn hL0
    go_enter Try.func51, Try.ntmps51
    go_wp2
    go_ret
    exact ⟨none, 0, rfl, by rw [HC.out]; intro i x hi; simp at hi, .inl ⟨rfl, rfl, rfl⟩, by rw [HC.out]; exact World.ownsRow_nil _ 0 9 1, Fr.refl _ _⟩
  · have FA := Fr.alloc w (.cells #[] 9) (fun _ => False)
    have hL1 := hL.fr FA (fun _ _ h => h)
    obtain ⟨i, hi, hz, hsz, hby⟩ := full9
    obtain ⟨v', W', hr, q1, q2, q3⟩ := run_append_gen (P := Try.prog) (w.alloc (.cells #[] 9)) 28 28 9 i _ 1 16 Try.underlying28 hi hz hsz hby rfl (by omega) _ 0 [] (row_empty w 9 1) ⟨g, off, none⟩ n c (L.map Value.string) (by rw [List.length_map, hn, Nat.mul_one]) (fun j u hu => by
      rw [List.getElem?_map] at hu
      obtain ⟨x, hx, rfl⟩ := Option.map_eq_some_iff.1 hu
      obtain ⟨g', off', e, _, e2⟩ := hL1 j x hx
      cases e
      rw [Addr.add_mid]; exact e2) (fun u hu => by obtain ⟨x, _, rfl⟩ := List.mem_map.1 hu; rfl) (by unfold maxLen; omega) (by omega)
    rw [Nat.zero_add, List.nil_append] at q1
    obtain ⟨a', c', rfl⟩ := shape_n q1
    have hfresh : ∀ k, (Value.slice a' n c').ownBlock = some k → w.heap.size ≤ k := fun k hk => by
      rcases q3 with q | ⟨p, q, hp⟩
      · rw [q] at hk; cases hk; exact Nat.le_refl _
      · rw [q] at hk; cases hk; have := FA.size; omega
    have HQ1 := hide q1
    have HR := hide (own_strs q1 hfresh)
    have HF := hide ((FA.trans (Fr.grown q2)).mono (Y := fun _ => False) (fun k hk h => by
      rcases h with h | h
      · exact h
      · have := Option.some.inj h; simp only [] at this; omega))
    have heq := fun w1 => run_eql_nil28 w1 (some ⟨g, off, none⟩) n c
    have hem := empty28
    clear hL hL1 hn FA q1 q2 q3 hfresh
    go_enter Try.func51, Try.ntmps51
    go_wp2_with (refine wpList_plain rfl fun _ hK => wp_append_to (.tmp 5) (.tmp 6) 28 rfl _ rfl _ rfl (.slice (some ⟨w.heap.size, 0, none⟩) 0 0) (.slice (some ⟨g, off, none⟩) n c) rfl rfl _ _ hr (hK _ _ ?_); clear hK)
    go_ret
    exact ⟨a', c', rfl, HR.out.1, HR.out.2, HQ1.out, HF.out⟩
set_option maxHeartbeats 4000000 in
theorem own_row {P : Nat → Prop} {w : World} (t : Tb) (h : TabIn P w t) : Calls Try.prog 30 #[t.agg] w fun e w' => ∃ a c a2 c2, e = .returned ({ t with ca := a, cc := c, ka := a2, kc := c2 } : Tb).agg ∧ TabIn (fun g => w.heap.size ≤ g) w' { t with ca := a, cc := c, ka := a2, kc := c2 } ∧ RowT w' { t with ca := a, cc := c, ka := a2, kc := c2 } ∧ Fr w w' (fun _ => False) := by
  obtain ⟨w1, hw1⟩ : ∃ w1, w1 = w.alloc (.cells #[.int .i64 t.id, .string t.name, .slice t.ca t.cn t.cc, .slice t.ka t.kn t.kc, .bool t.ix] 30) := ⟨_, rfl⟩
  have b1 : BoxT w1 w.heap.size t := by rw [hw1]; exact heap_alloc_new w _
  have f1 : Fr w w1 (fun _ => False) := by rw [hw1]; exact Fr.alloc w _ _
  have s1 : w1.heap.size = w.heap.size + 1 := by rw [hw1]; simp
  obtain ⟨w2, hw2⟩ : ∃ w2, w2 = w1.alloc (.cells #[.int .i64 0, .string ⟨#[]⟩, .slice none 0 0, .slice none 0 0, .bool false] 30) := ⟨_, rfl⟩
  have f2 : Fr w1 w2 (fun _ => False) := by rw [hw2]; exact Fr.alloc w1 _ _
  have z2 : BoxT w2 (w.heap.size + 1) zeroT := by rw [hw2, ← s1]; exact heap_alloc_new w1 _
  have HB2 := hide (b1.fr f2 (fun h => h))
  have HT2 := hide (h.fr (f1.two f2) (fun _ _ h => h))
  have HF2 := hide (f1.two f2)
  have HZ2 := hide z2
  have s2 : w2.heap.size = w.heap.size + 2 := by rw [hw2]; simp [s1]
  have HS2 := hide s2
  rw [hw1] at hw2
  have HW := hide hw2
  clear h f1 b1 hw1 f2 z2 s1 s2 hw2
  unfold Tb.agg
  go_enter Try.func30, Try.ntmps30
  go_wp2_with (rw [← HW.out]; clear HW)
  replace HB2 : Hid (BoxT w2.drew w.heap.size t) := hide HB2.out
  replace HZ2 : Hid (BoxT w2.drew (w.heap.size + 1) zeroT) := hide HZ2.out
  replace HT2 := hide (HT2.out.fr (Fr.drew w2 (fun _ => False)) (fun _ _ h => h))
  replace HF2 := hide (HF2.out.two (Fr.drew w2 _))
  replace HS2 : Hid (w2.drew.heap.size = w.heap.size + 2) := hide HS2.out
  refine wp_region_K (fun z => decide (z < 7)) (fun U : World => Fr w2.drew U (fun _ => False)) (by kernel_rfl) ?_
  generalize w2.drew = U0 at *
  have hS : (fun U : World => Fr U0 U (fun _ => False)) U0 := Fr.refl _ _
  refine wpAnyK_takeTo 0 (some 3) (.pointer (some ⟨w.heap.size, 2, none⟩)) [1, 2, 5, 6, 7, 8, 9] rfl rfl (by kernel_rfl) (by kernel_rfl) (by kernel_rfl) (by kernel_rfl) (fun _ _ _ h => h) hS (Or.inl ⟨rfl, fun w1 hw1 => by obtain ⟨x0, x1, x2, x3, x4⟩ := (HB2.out.fr hw1 (fun h => h)).cells; go_simp⟩) ?_
  simp only [Act.put, List.setIfInBounds_toArray, List.set_cons_zero, List.set_cons_succ]
  refine wpAnyK_takeTo 1 (some 4) (.slice t.ca t.cn t.cc) [2, 5, 6, 7, 8, 9] rfl rfl (by kernel_rfl) (by kernel_rfl) (by kernel_rfl) (by kernel_rfl) (fun _ _ _ h => h) hS (Or.inl ⟨rfl, fun w1 hw1 => by obtain ⟨x0, x1, x2, x3, x4⟩ := (HB2.out.fr hw1 (fun h => h)).cells; go_simp⟩) ?_
  simp only [Act.put, List.setIfInBounds_toArray, List.set_cons_zero, List.set_cons_succ]
  refine wpAnyK_takeTo 3 (some 6) (.pointer (some ⟨w.heap.size, 3, none⟩)) [4, 5, 6, 7, 8, 9] rfl rfl (by kernel_rfl) (by kernel_rfl) (by kernel_rfl) (by kernel_rfl) (fun _ _ _ h => h) hS (Or.inl ⟨rfl, fun w1 hw1 => by obtain ⟨x0, x1, x2, x3, x4⟩ := (HB2.out.fr hw1 (fun h => h)).cells; go_simp⟩) ?_
  simp only [Act.put, List.setIfInBounds_toArray, List.set_cons_zero, List.set_cons_succ]
  refine wpAnyK_takeTo 4 (some 7) (.slice t.ka t.kn t.kc) [5, 6, 7, 8, 9] rfl rfl (by kernel_rfl) (by kernel_rfl) (by kernel_rfl) (by kernel_rfl) (fun _ _ _ h => h) hS (Or.inl ⟨rfl, fun w1 hw1 => by obtain ⟨x0, x1, x2, x3, x4⟩ := (HB2.out.fr hw1 (fun h => h)).cells; go_simp⟩) ?_
  simp only [Act.put, List.setIfInBounds_toArray, List.set_cons_zero, List.set_cons_succ]
  clear hS
  refine wpAnyK_one (i := 2) (by kernel_rfl) rfl rfl ?_
  refine wp_call_to (some 5) rfl 50 #[.slice t.ca t.cn t.cc] (by go_simp) (cloneC_row t.ca t.cn t.cc t.C HT2.out.cols HT2.out.cn HT2.out.cb HT2.out.cs) ?_
  rintro e U1 ⟨a, c, rfl, hc1, hs1, hr1, g1⟩
  refine ⟨_, rfl, fun _ => g1, ?_⟩
  simp only [Act.put, List.setIfInBounds_toArray, List.set_cons_zero, List.set_cons_succ]
  have HC1 := hide hc1
  have HS1 := hide hs1
  have HR1 := hide hr1
  have HG1 := hide g1
  have hS : (fun U : World => Fr U0 U (fun _ => False)) U1 := g1
  clear hc1 hs1 hr1 g1
  refine wpAnyK_takeTo 6 (some 9) (.pointer (some ⟨w.heap.size, 2, none⟩)) [7, 8, 9] rfl rfl (by kernel_rfl) (by kernel_rfl) (by kernel_rfl) (by kernel_rfl) (fun _ _ _ h => h) hS (Or.inl ⟨rfl, fun w1 hw1 => by go_simp⟩) ?_
  simp only [Act.put, List.setIfInBounds_toArray, List.set_cons_zero, List.set_cons_succ]
  clear hS
  refine wpAnyK_one (i := 5) (by kernel_rfl) rfl rfl ?_
  have HT3 := hide (HT2.out.fr HG1.out (fun _ _ h => h))
  refine wp_call_to (some 8) rfl 51 #[.slice t.ka t.kn t.kc] (by go_simp) (cloneS_row t.ka t.kn t.kc t.K HT3.out.keys HT3.out.kn HT3.out.kb HT3.out.ks) ?_
  rintro e U2 ⟨a2, c2, rfl, hk2, hs2, hr2, g2⟩
  refine ⟨_, rfl, fun _ => HG1.out.two g2, ?_⟩
  simp only [Act.put, List.setIfInBounds_toArray, List.set_cons_zero, List.set_cons_succ]
  have HB3 := hide (HB2.out.fr (HG1.out.two g2) (fun h => h))
  have HZ3 := hide (HZ2.out.fr (HG1.out.two g2) (fun h => h))
  have HF3 := hide (HF2.out.two (HG1.out.two g2))
  have HT4 : Hid (TabIn (fun g => U0.heap.size ≤ g) U2 { t with ca := a, cc := c, ka := a2, kc := c2 }) := hide ⟨HC1.out.fr g2 (fun _ _ h => h), HT2.out.cn, HT2.out.cb, HS1.out.fr g2, fun i x hi => by
    obtain ⟨g, off, e1, e2, e3⟩ := hk2 i x hi
    exact ⟨g, off, e1, Nat.le_trans HG1.out.size e2, e3⟩, HT2.out.kn, HT2.out.kb, hs2.imp (fun h => h) (fun ⟨g, off, e1, e2, e3⟩ => ⟨g, off, e1, Nat.le_trans HG1.out.size e2, e3⟩), HT2.out.id⟩
  have HRT : Hid (RowT U2 { t with ca := a, cc := c, ka := a2, kc := c2 }) := hide ⟨ownsRow_fr HR1.out g2 (fun _ _ h => h), hr2⟩
  clear hr2 HR1 hk2 hs2 g2 HC1 HS1 HG1 HT2 HT3 HB2 HZ2 HF2
  obtain ⟨x0, x1, x2, x3, x4⟩ := HB3.out.cells
  have z2 := HB3.out.frozen 2
  have y2 := heap_setCell_here _ w.heap.size 2 (.slice a t.cn c) _ _ _ HB3.out
  obtain ⟨U3, hU3⟩ : ∃ U3, U3 = U2.setCell ⟨w.heap.size, 2, none⟩ (.slice a t.cn c) := ⟨_, rfl⟩
  have f3 : Fr U2 U3 (fun k => k = w.heap.size) := by rw [hU3]; exact Fr.setCell _ _ _
  rw [← hU3] at y2
  have z3 : U3.frozen? ⟨w.heap.size, 3, none⟩ = false := by simp [World.frozen?, y2]
  have d3 : U3.cell? ⟨w.heap.size, 3, none⟩ = some (.slice t.ka t.kn t.kc) := (cell_of_row _ _ _ _ _ _ y2).trans rfl
  have y3 := heap_setCell_here _ w.heap.size 3 (.slice a2 t.kn c2) _ _ _ y2
  obtain ⟨U4, hU4⟩ : ∃ U4, U4 = U3.setCell ⟨w.heap.size, 3, none⟩ (.slice a2 t.kn c2) := ⟨_, rfl⟩
  have f4 : Fr U3 U4 (fun k => k = w.heap.size) := by rw [hU4]; exact Fr.setCell _ _ _
  rw [← hU4] at y3
  have HB4 : Hid (BoxT U4 w.heap.size { t with ca := a, cc := c, ka := a2, kc := c2 }) := hide y3
  have F4 : Fr U2 U4 (fun k => k = w.heap.size) := (f3.trans f4).mono (fun k _ h => h.elim id id)
  have HZ4 := hide (HZ3.out.fr F4 (fun h => by omega))
  replace HRT := hide (HRT.out.fr HT4.out F4 (fun k hk h => by have := HS2.out; omega))
  have HT5 := hide (HT4.out.fr F4 (fun k hk h => by have := HS2.out; omega))
  have HF4 := hide ((HF3.out.trans F4).mono (Y := fun _ => False) (fun k hk h => by rcases h with h | h; exact h; omega))
  have HU3 := hide hU3
  have HU4 := hide hU4
  clear y2 y3 f3 f4 F4 HB3 HZ3 HT4 HF3 hU3 hU4
  refine wpAnyK_one (i := 7) (by kernel_rfl) rfl rfl ?_
  go_simp
  rw [← HU3.out]
  refine wpAnyK_one (i := 8) (by kernel_rfl) rfl rfl ?_
  go_simp
  refine wpAnyK_one (i := 9) (by kernel_rfl) rfl rfl ?_
  go_simp
  rw [← HU4.out]
  refine wpAnyK_done (by kernel_rfl) ?_ _
  clear HU3 HU4 z2 z3 d3 x0 x1 x2 x3 x4
  obtain ⟨x0, x1, x2, x3, x4⟩ := HB4.out.cells
  obtain ⟨z0, z1, z2, z3, z4⟩ := HZ4.out.cells
  have q0 := HZ4.out.frozen 0
  have q1 := HZ4.out.frozen 1
  have q2 := HZ4.out.frozen 2
  have q3 := HZ4.out.frozen 3
  have q4 := HZ4.out.frozen 4
  obtain ⟨U5, hU5⟩ : ∃ U5, U5 = ((((U4.setCell ⟨w.heap.size + 1, 0, none⟩ (.int .i64 t.id)).setCell ⟨w.heap.size + 1, 1, none⟩ (.string t.name)).setCell ⟨w.heap.size + 1, 2, none⟩ (.slice a t.cn c)).setCell ⟨w.heap.size + 1, 3, none⟩ (.slice a2 t.kn c2)).setCell ⟨w.heap.size + 1, 4, none⟩ (.bool t.ix) := ⟨_, rfl⟩
  have HB5 := hide (HZ4.out.fill (t' := { t with ca := a, cc := c, ka := a2, kc := c2 }) U5 hU5)
  have F5 := fr_fill (t' := { t with ca := a, cc := c, ka := a2, kc := c2 }) U5 hU5
  replace HRT := hide (HRT.out.fr HT5.out F5 (fun k hk h => by have := HS2.out; omega))
  have HT6 := hide (HT5.out.fr F5 (fun k hk h => by have := HS2.out; omega))
  have HF5 := hide ((HF4.out.trans F5).mono (Y := fun _ => False) (fun k hk h => by rcases h with h | h; exact h; omega))
  have HU5 := hide hU5
  clear HB4 HZ4 HT5 HF4 F5 hU5
  go_wp2_with (rw [← HU5.out]; clear HU5)
  refine bodyPost_ret (results_tb Try.results30 _ _ (w.heap.size + 1) HB5.out rfl) rfl ⟨a, c, a2, c2, rfl, ?_, HRT.out, HF5.out⟩
  have hs := HS2.out
  have h := HT6.out
  exact ⟨fun i x hi => by obtain ⟨g, off, e1, e2, e3⟩ := h.cols i x hi; exact ⟨g, off, e1, by omega, e3⟩, h.cn, h.cb, h.cs.imp (fun h => h) (fun ⟨g, off, e1, e2, e3⟩ => ⟨g, off, e1, by omega, e3⟩), fun i x hi => by obtain ⟨g, off, e1, e2, e3⟩ := h.keys i x hi; exact ⟨g, off, e1, by omega, e3⟩, h.kn, h.kb, h.ks.imp (fun h => h) (fun ⟨g, off, e1, e2, e3⟩ => ⟨g, off, e1, by omega, e3⟩), h.id⟩
/-- What Find tells. -/
def FindR (s : ByteArray) (L : List Tb) (w : World) (e : Ending) (w' : World) : Prop := Fr w w' (fun _ => False) ∧
  (((∀ x ∈ L, x.name ≠ s) ∧ e = .returned (.tuple #[zeroT.agg, .int .i64 160])) ∨
   ∃ (i : Nat) (x : Tb), L[i]? = some x ∧ x.name = s ∧ (∀ (j : Nat) (y : Tb), j < i → L[j]? = some y → y.name ≠ s) ∧ ∃ a c a2 c2, e = .returned (.tuple #[({ x with ca := a, cc := c, ka := a2, kc := c2 } : Tb).agg, .int .i64 0]) ∧ TabIn (fun g => w.heap.size ≤ g) w' { x with ca := a, cc := c, ka := a2, kc := c2 } ∧ RowT w' { x with ca := a, cc := c, ka := a2, kc := c2 })
set_option maxHeartbeats 4000000 in
theorem find_row {X : Nat → Prop} {w : World} {gc : Nat} {v : Value} {L : List Tb} (h : Cat X w gc v L) (hb : L.length ≤ 1048576) (s : ByteArray) : Calls Try.prog 27 #[.pointer (some ⟨gc, 0, none⟩), .string s] w (FindR s L w) := by
  obtain ⟨w1, hw1⟩ : ∃ w1, w1 = w.alloc (.cells #[.int .i64 0, .string ⟨#[]⟩, .slice none 0 0, .slice none 0 0, .bool false] 30) := ⟨_, rfl⟩
  have b1 : BoxT w1 w.heap.size zeroT := by rw [hw1]; exact heap_alloc_new w _
  have f1 : Fr w w1 (fun _ => False) := by rw [hw1]; exact Fr.alloc w _ _
  have h1 := h.fr f1 (fun _ _ h => h)
  have HP := hide (place_any h1 hb s)
  have HSZ : Hid (w.heap.size + 1 ≤ w1.heap.size) := hide (by rw [hw1]; simp)
  have HC := hide h1
  have HB := hide b1
  have HF := hide f1
  have HW := hide hw1
  have HBD := hide hb
  clear h h1 b1 f1 hw1 hb
  go_enter Try.func27, Try.ntmps27
  go_wp2_with (rw [← HW.out]; clear HW)
  refine HP.out.mono ?_
  rintro e w2 ⟨r, rfl, hr, fV⟩
  have HC2 := hide (HC.out.fr fV (fun _ _ h => h))
  have HB2 := hide (HB.out.fr fV (fun h => h))
  have HF2 := hide (HF.out.two fV)
  have HSZ2 := hide (Nat.le_trans HSZ.out fV.size)
  clear HP fV HC HB HF HSZ
  obtain ⟨z0, z1, z2, z3, z4⟩ := HB2.out.cells
  have q0 := HB2.out.frozen 0
  have q1 := HB2.out.frozen 1
  have q2 := HB2.out.frozen 2
  have q3 := HB2.out.frozen 3
  have q4 := HB2.out.frozen 4
  rcases hr with ⟨i, x, hi, hx, hfirst, rfl⟩ | ⟨hno, rfl⟩
  · have HI := hide hi
    have HX := hide hx
    have HFI := hide hfirst
    obtain ⟨a, c, rfl, hrow⟩ := rows_at HC2.out.row
    obtain ⟨g, rfl, e0, e1, e2, e3, e4⟩ := hrow i x hi
    have c0 := HC2.out.cell
    have hlt : i < L.length := (List.getElem?_eq_some_iff.1 hi).1
    have HT := hide (HC2.out.tabs x (List.mem_of_getElem? hi))
    obtain ⟨n, hn⟩ : ∃ n, n = L.length := ⟨_, rfl⟩
    rw [← hn] at c0 hlt
    have HN := hide hn
    have hnb : n ≤ 1048576 := by rw [hn]; exact HBD.out
    have hlb : ¬ ((i : Int) < 0) := by omega
    have hlbb : decide ((i : Int) < 0) = false := by simp
    have HO := hide (own_row x HT.out)
    unfold Tb.agg at HO
    clear hi hx hfirst hrow hn HC2
    go_wp2_with fail
    refine HO.out.mono ?_
    rintro e w3 ⟨a1, c1, a2, c2, rfl, ht, hrt, fV⟩
    have HT3 := hide ht
    have HRT := hide hrt
    clear hrt
    have HF3 := hide (HF2.out.two fV)
    have HB3 := hide (HB2.out.fr fV (fun h => h))
    have HSZ3 := hide (Nat.le_trans HSZ2.out fV.size)
    clear HO ht fV e0 e1 e2 e3 e4 c0 HT HF2 HB2 z0 z1 z2 z3 z4 q0 q1 q2 q3 q4
    obtain ⟨z0, z1, z2, z3, z4⟩ := HB3.out.cells
    have q0 := HB3.out.frozen 0
    have q1 := HB3.out.frozen 1
    have q2 := HB3.out.frozen 2
    have q3 := HB3.out.frozen 3
    have q4 := HB3.out.frozen 4
    obtain ⟨w4, hw4⟩ : ∃ w4, w4 = ((((w3.setCell ⟨w.heap.size, 0, none⟩ (.int .i64 x.id)).setCell ⟨w.heap.size, 1, none⟩ (.string x.name)).setCell ⟨w.heap.size, 2, none⟩ (.slice a1 x.cn c1)).setCell ⟨w.heap.size, 3, none⟩ (.slice a2 x.kn c2)).setCell ⟨w.heap.size, 4, none⟩ (.bool x.ix) := ⟨_, rfl⟩
    have HB4 := hide (HB3.out.fill (t' := { x with ca := a1, cc := c1, ka := a2, kc := c2 }) w4 hw4)
    have F4 := fr_fill (t' := { x with ca := a1, cc := c1, ka := a2, kc := c2 }) w4 hw4
    replace HRT := hide (HRT.out.fr HT3.out F4 (fun k hk h => by have := HSZ2.out; omega))
    have HT4 := hide ((HT3.out.fr F4 (fun k hk h => by have := HSZ2.out; omega)).mono (Q := fun g => w.heap.size ≤ g) (fun k hk => by have := HSZ2.out; omega))
    have HF4 := hide ((HF3.out.trans F4).mono (Y := fun _ => False) (fun k hk h => by rcases h with h | h; exact h; omega))
    have HU := hide hw4
    clear F4 hw4 HB3 HF3 HT3
    go_wp2_with (rw [← HU.out]; clear HU)
    refine bodyPost_ret (results_tb2 Try.results27 _ _ w.heap.size HB4.out rfl) rfl ⟨HF4.out, .inr ⟨i, x, HI.out, HX.out, HFI.out, a1, c1, a2, c2, rfl, HT4.out, HRT.out⟩⟩
  · have HNO := hide hno
    obtain ⟨w4, hw4⟩ : ∃ w4, w4 = ((((w2.setCell ⟨w.heap.size, 0, none⟩ (.int .i64 0)).setCell ⟨w.heap.size, 1, none⟩ (.string ⟨#[]⟩)).setCell ⟨w.heap.size, 2, none⟩ (.slice none 0 0)).setCell ⟨w.heap.size, 3, none⟩ (.slice none 0 0)).setCell ⟨w.heap.size, 4, none⟩ (.bool false) := ⟨_, rfl⟩
    have HB4 := hide (HB2.out.fill (t' := zeroT) w4 hw4)
    have F4 := fr_fill (t' := zeroT) w4 hw4
    have HF4 := hide ((HF2.out.trans F4).mono (Y := fun _ => False) (fun k hk h => by rcases h with h | h; exact h; omega))
    have HU := hide hw4
    unfold zeroT at z0 z1 z2 z3 z4
    clear hno F4 hw4 HB2 HF2 HC2
    go_wp2_with (rw [← HU.out]; clear HU)
    refine bodyPost_ret (results_tb2 Try.results27 _ _ w.heap.size HB4.out rfl) rfl ⟨HF4.out, .inl ⟨HNO.out, rfl⟩⟩
structure CopiesR (w W : World) (v : Value) (L M : List Tb) : Prop extends Copies w W v L M where
  rows : ∀ t ∈ M, RowT W t
theorem CopiesR.frame {w W W' : World} {v : Value} {L M : List Tb} (h : CopiesR w W v L M) (f : Fr W W' (fun _ => False)) : CopiesR w W' v L M :=
  ⟨h.toCopies.frame f, fun t ht => (h.rows t ht).fr (h.tabs t ht) f (fun _ _ h => h)⟩
theorem CopiesR.push {w W : World} {v : Value} {L M : List Tb} (h : CopiesR w W v L M) (x t : Tb) (hk : t.key = x.key) (ht : TabIn (fun g => w.heap.size ≤ g ∧ v.ownBlock ≠ some g) W t) (hrt : RowT W t) (hb : M.length ≤ 1048576) :
    ∃ a c w', (Builtin.append_ #[40, 40] 40 #[v, .slice (some ⟨W.heap.size, 0, none⟩) 1 1]).run Try.prog (W.alloc (.cells #[.int .i64 t.id, .string t.name, .slice t.ca t.cn t.cc, .slice t.ka t.kn t.kc, .bool t.ix] 30)) = .ok (.slice a (M.length + 1) c) w' ∧ CopiesR w w' (.slice a (M.length + 1) c) (L ++ [x]) (M ++ [t]) := by
  obtain ⟨a, c, w', hr, q1, q2, q3⟩ := push_tab h.row t hb
  have hne : ∀ (P : Nat → Prop) (y : Tb), TabIn (fun g => w.heap.size ≤ g ∧ v.ownBlock ≠ some g) W y → TabIn (fun g => w.heap.size ≤ g ∧ (Value.slice a (M.length + 1) c).ownBlock ≠ some g) w' y := fun P y hy => by
    refine (hy.lt.fr q2 (fun k hk => hk.1.2)).mono (fun k hk => ⟨hk.1.1, fun he => ?_⟩)
    rcases q3 with q | ⟨p, q, hp⟩
    · rw [q] at he; exact hk.1.2 he
    · rw [q] at he; cases he; have := hk.2; omega
  refine ⟨a, c, w', hr, ⟨q1, by simp [h.same, hk], q3.le h.fr.size h.fresh, fun y hy => ?_, ?_⟩, fun y hy => ?_⟩
  · rcases List.mem_append.1 hy with hy | hy
    · exact hne (fun _ => True) y (h.tabs y hy)
    · obtain rfl : y = t := List.mem_singleton.1 hy
      exact hne (fun _ => True) y ht
  · exact (h.fr.trans q2).mono (fun k hk hh => by rcases hh with hh | hh; exact hh; (have := h.fresh k hh; omega))
  · rcases List.mem_append.1 hy with hy | hy
    · exact (h.rows y hy).fr (h.tabs y hy) q2 (fun k hk => hk.2)
    · obtain rfl : y = t := List.mem_singleton.1 hy
      exact hrt.fr ht q2 (fun k hk => hk.2)
set_option maxHeartbeats 4000000 in
theorem tables_row {X : Nat → Prop} {w : World} {gc : Nat} {v : Value} {L : List Tb} (h : Cat X w gc v L) (hb : L.length ≤ 1048576) : Calls Try.prog 14 #[.pointer (some ⟨gc, 0, none⟩)] w fun e w' => ∃ a c M, e = .returned (.slice a L.length c) ∧ CopiesR w w' (.slice a L.length c) L M := by
  obtain ⟨a, c, rfl, hrow⟩ := rows_at h.row
  have c0 := h.cell
  have HR := hide hrow
  have HT := hide h.tabs
  obtain ⟨n, hn⟩ : ∃ n, n = L.length := ⟨_, rfl⟩
  rw [← hn] at c0 HT ⊢
  have HN := hide hn
  have hnb : n ≤ 1048576 := by rw [hn]; exact hb
  clear h hrow hb hn
  go_enter Try.func14, Try.ntmps14
  go_wp2_with fail
  go_loopw [3, 11] (fun v ix wr => ∃ (j : Nat) (M : List Tb), j ≤ n ∧ ix = .int .i64 (j : Int) ∧ CopiesR w wr v (L.take j) M) (fun _ ix _ => n - (intOf ix).toNat)
  case atStart => exact ⟨0, [], Nat.zero_le _, rfl, ⟨World.ownsRow_nil w 0 30 5, rfl, fun k hk => (by cases hk), fun t ht => (by cases ht), Fr.refl _ _⟩, fun t ht => (by cases ht)⟩
  case round =>
    rename World => W
    obtain ⟨j, M, hj, rfl, hg⟩ := hrel
    have HG := hide hg
    clear hg
    rcases Nat.lt_or_ge j n with hlt | hge
    · obtain ⟨x, hx⟩ : ∃ x, L[j]? = some x := ⟨_, List.getElem?_eq_getElem (by rw [← HN.out]; exact hlt)⟩
      obtain ⟨g, ha, ht⟩ := HR.out j x hx
      obtain ⟨e0, e1, e2, e3, e4⟩ := ht.fr HG.out.fr (fun h => h)
      subst ha
      obtain ⟨W1, hW1⟩ : ∃ W1, W1 = W.alloc (.cells #[.int .i64 x.id, .string x.name, .slice x.ca x.cn x.cc, .slice x.ka x.kn x.kc, .bool x.ix] 30) := ⟨_, rfl⟩
      have f1 : Fr W W1 (fun _ => False) := by rw [hW1]; exact Fr.alloc W _ _
      have b1 : BoxT W1 W.heap.size x := by rw [hW1]; exact heap_alloc_new W _
      obtain ⟨x0, x1, x2, x3, x4⟩ := b1.cells
      have HG1 := hide (HG.out.frame f1)
      have HO := hide (own_row x ((HT.out x (List.mem_of_getElem? hx)).fr (HG.out.fr.two f1) (fun _ _ h => h)))
      unfold Tb.agg at HO
      have HX := hide hx
      have HW := hide hW1
      clear hx ht hW1 f1 b1 HG
      go_wp2_with (rw [← HW.out]; clear HW)
      refine HO.out.mono ?_
      rintro e W2 ⟨a1, c1, a2, c2, rfl, ht2, hrt2, f2⟩
      have hsz := HG1.out.fr.size
      obtain ⟨a3, c3, W3, hr, hg3⟩ := (HG1.out.frame f2).push x { x with ca := a1, cc := c1, ka := a2, kc := c2 } rfl (ht2.mono (fun k hk => ⟨by omega, fun he => by have := ownsRow_lt HG1.out.row he; omega⟩)) hrt2 (by rw [HG1.out.toCopies.len, List.length_take]; omega)
      obtain ⟨m, hm⟩ : ∃ m, m = M.length + 1 := ⟨_, rfl⟩
      rw [← hm] at hr hg3
      have HG3 : Hid (CopiesR w W3 (.slice a3 m c3) (L.take (j + 1)) (M ++ [{ x with ca := a1, cc := c1, ka := a2, kc := c2 }])) := hide (by rw [List.take_add_one, HX.out]; exact hg3)
      obtain ⟨av, mv, cv, rfl⟩ := ownsRow_shape HG1.out.row
      clear HO ht2 hrt2 f2 hg3 hm HG1 hsz x0 x1 x2 x3 x4
      go_wp2_with (refine wpList_plain rfl fun _ hK => wp_append_to (.tmp 15) (.tmp 18) 40 rfl _ rfl _ rfl (.slice av mv cv) (.slice (some ⟨W2.heap.size, 0, none⟩) 1 1) rfl rfl _ _ hr (hK _ _ ?_); clear hK)
      go_roundw
      case rel => exact ⟨j + 1, _, by omega, by go_num, HG3.out⟩
      case measure => simp [intOf]; omega
    · have e1 : n = j := by omega
      have HJ := hide e1
      clear e1
      have hcj : ¬ ((j : Int) < (n : Int)) := by omega
      have hcjb : decide ((j : Int) < (n : Int)) = false := by simp; omega
      have hg := HG.out
      rw [List.take_of_length_le (by rw [← HN.out, HJ.out]; exact Nat.le_refl _)] at hg
      obtain ⟨av, cv, rfl⟩ := shape_n hg.row
      rw [hg.toCopies.len, ← HN.out] at hg ⊢
      have HG2 := hide hg
      clear hg HG
      go_wp2
      go_ret
      exact ⟨av, cv, rfl, M, HG2.out⟩
end Go.Proofs.Ytdeopneififnnaa
