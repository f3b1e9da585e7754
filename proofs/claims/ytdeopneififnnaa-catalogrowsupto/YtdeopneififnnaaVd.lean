/- The document's Copy: a table in new memory. -/
import Derived.Test.YtdeopneififnnaaPb
import Derived.Test.YtdeopneififnnaaSa
namespace Go.Proofs.Ytdeopneififnnaa
open Go.RowKit
set_option maxRecDepth 100000
set_option linter.unusedVariables false
set_option linter.unusedSimpArgs false

/-- A table whose columns and keys are rows of its own. -/
def RowT (w : World) (t : Tb) : Prop := w.ownsRow 0 37 2 (.slice t.ca t.cn t.cc) t.cn (encC t.C) ∧ w.ownsRow 0 9 1 (.slice t.ka t.kn t.kc) t.kn (t.K.map Value.string)
theorem cat_nil27 (w : World) (g : Nat) : (Builtin.append_ #[27, 27] 27 #[.slice (some ⟨g, 0, none⟩) 0 0, .slice none 0 0]).run Try.prog w = .ok (.slice (some ⟨g, 0, none⟩) 0 0) w := by kernel_rfl
theorem cat_nil28 (w : World) (g : Nat) : (Builtin.append_ #[28, 28] 28 #[.slice (some ⟨g, 0, none⟩) 0 0, .slice none 0 0]).run Try.prog w = .ok (.slice (some ⟨g, 0, none⟩) 0 0) w := by kernel_rfl
theorem cat_cols {P : Nat → Prop} {w : World} (a : Option Addr) (n c : Nat) (C : List Cn) (hC : ColsIn P w a C) (hn : C.length = n) (hb : n ≤ 1048576) (hs : Sh P w a n c) : ∃ a' c' W', (Builtin.append_ #[27, 27] 27 #[.slice (some ⟨w.heap.size, 0, none⟩) 0 0, .slice a n c]).run Try.prog (w.alloc (.cells #[] 37)) = .ok (.slice a' n c') W' ∧ W'.ownsRow 0 37 2 (.slice a' n c') n (encC C) ∧ (∀ k, (Value.slice a' n c').ownBlock = some k → w.heap.size ≤ k) ∧ Fr w W' (fun _ => False) := by
  have FA := Fr.alloc w (.cells #[] 37) (fun _ => False)
  rcases hs with ⟨rfl, rfl⟩ | ⟨g, off, rfl, _, _⟩
  · obtain rfl : C = [] := List.eq_nil_of_length_eq_zero hn
    cases a with
    | none => exact ⟨_, _, _, cat_nil27 _ _, row_empty w 37 2, fun k hk => by cases hk; exact Nat.le_refl _, FA⟩
    | some x => exact ⟨_, _, _, cat_any27 _ _ x, row_empty w 37 2, fun k hk => by cases hk; exact Nat.le_refl _, FA⟩
  · obtain ⟨i, hi, hz, hsz, hby⟩ := full37
    obtain ⟨v', W', hr, q1, q2, q3⟩ := run_append_gen (P := Try.prog) (w.alloc (.cells #[] 37)) 27 27 37 i _ 2 24 Try.underlying27 hi hz hsz hby rfl (by omega) _ 0 [] (row_empty w 37 2) ⟨g, off, none⟩ n c (encC C) (by rw [encC_length, hn]) (encC_cells (hC.fr FA (fun _ _ h => h))) (encC_one C) (by unfold maxLen; omega) (by omega)
    rw [Nat.zero_add, List.nil_append] at q1
    obtain ⟨a', c', rfl⟩ := shape_n q1
    refine ⟨a', c', W', hr, q1, fun k hk => ?_, (FA.trans (Fr.grown q2)).mono (Y := fun _ => False) (fun k hk h => ?_)⟩
    · rcases q3 with q | ⟨p, q, hp⟩
      · rw [q] at hk; cases hk; exact Nat.le_refl _
      · rw [q] at hk; cases hk; have := FA.size; omega
    · rcases h with h | h
      · exact h
      · have := Option.some.inj h; simp only [] at this; omega
theorem cat_strs {P : Nat → Prop} {w : World} (a : Option Addr) (n c : Nat) (L : List ByteArray) (hL : StrsIn P w a L) (hn : L.length = n) (hb : n ≤ 1048576) (hs : Sh P w a n c) : ∃ a' c' W', (Builtin.append_ #[28, 28] 28 #[.slice (some ⟨w.heap.size, 0, none⟩) 0 0, .slice a n c]).run Try.prog (w.alloc (.cells #[] 9)) = .ok (.slice a' n c') W' ∧ W'.ownsRow 0 9 1 (.slice a' n c') n (L.map Value.string) ∧ (∀ k, (Value.slice a' n c').ownBlock = some k → w.heap.size ≤ k) ∧ Fr w W' (fun _ => False) := by
  have FA := Fr.alloc w (.cells #[] 9) (fun _ => False)
  rcases hs with ⟨rfl, rfl⟩ | ⟨g, off, rfl, _, _⟩
  · obtain rfl : L = [] := List.eq_nil_of_length_eq_zero hn
    cases a with
    | none => exact ⟨_, _, _, cat_nil28 _ _, row_empty w 9 1, fun k hk => by cases hk; exact Nat.le_refl _, FA⟩
    | some x => exact ⟨_, _, _, cat_any28 _ _ x, row_empty w 9 1, fun k hk => by cases hk; exact Nat.le_refl _, FA⟩
  · have hL1 := hL.fr FA (fun _ _ h => h)
    obtain ⟨i, hi, hz, hsz, hby⟩ := full9
    obtain ⟨v', W', hr, q1, q2, q3⟩ := run_append_gen (P := Try.prog) (w.alloc (.cells #[] 9)) 28 28 9 i _ 1 16 Try.underlying28 hi hz hsz hby rfl (by omega) _ 0 [] (row_empty w 9 1) ⟨g, off, none⟩ n c (L.map Value.string) (by rw [List.length_map, hn, Nat.mul_one]) (fun j u hu => by
      rw [List.getElem?_map] at hu
      obtain ⟨x, hx, rfl⟩ := Option.map_eq_some_iff.1 hu
      obtain ⟨g', off', e, _, e2⟩ := hL1 j x hx
      cases e
      rw [Addr.add_mid]; exact e2) (fun u hu => by obtain ⟨x, _, rfl⟩ := List.mem_map.1 hu; rfl) (by unfold maxLen; omega) (by omega)
    rw [Nat.zero_add, List.nil_append] at q1
    obtain ⟨a', c', rfl⟩ := shape_n q1
    refine ⟨a', c', W', hr, q1, fun k hk => ?_, (FA.trans (Fr.grown q2)).mono (Y := fun _ => False) (fun k hk h => ?_)⟩
    · rcases q3 with q | ⟨p, q, hp⟩
      · rw [q] at hk; cases hk; exact Nat.le_refl _
      · rw [q] at hk; cases hk; have := FA.size; omega
    · rcases h with h | h
      · exact h
      · have := Option.some.inj h; simp only [] at this; omega
theorem BoxD.fill {w : World} {g : Nat} {t t' : Tb} (h : BoxD w g t) (w' : World) (hw : w' = ((((w.setCell ⟨g, 0, none⟩ (.int .i64 t'.id)).setCell ⟨g, 1, none⟩ (.string t'.name)).setCell ⟨g, 2, none⟩ (.slice t'.ca t'.cn t'.cc)).setCell ⟨g, 3, none⟩ (.slice t'.ka t'.kn t'.kc)).setCell ⟨g, 4, none⟩ (.bool t'.ix)) : BoxD w' g t' := by
  have h1 := heap_setCell_here _ g 0 (.int .i64 t'.id) _ _ _ h
  have h2 := heap_setCell_here _ g 1 (.string t'.name) _ _ _ h1
  have h3 := heap_setCell_here _ g 2 (.slice t'.ca t'.cn t'.cc) _ _ _ h2
  have h4 := heap_setCell_here _ g 3 (.slice t'.ka t'.kn t'.kc) _ _ _ h3
  have h5 := heap_setCell_here _ g 4 (.bool t'.ix) _ _ _ h4
  rw [hw]; exact h5
theorem RowT.tab {P : Nat → Prop} {w' : World} {t : Tb} (h : RowT w' t) (hC : t.C.length = t.cn) (hcb : t.cn ≤ 1048576) (hK : t.K.length = t.kn) (hkb : t.kn ≤ 1048576) (hid : In64 t.id) (h1 : ∀ k, (Value.slice t.ca t.cn t.cc).ownBlock = some k → P k) (h2 : ∀ k, (Value.slice t.ka t.kn t.kc).ownBlock = some k → P k) : TabIn P w' t :=
  ⟨(own_cols h.1 h1).1, hC, hcb, (own_cols h.1 h1).2, (own_strs h.2 h2).1, hK, hkb, (own_strs h.2 h2).2, hid⟩
set_option maxHeartbeats 4000000 in
theorem copy_ref {P : Nat → Prop} {w : World} (t : Tb) (h : TabIn P w t) : Calls Try.prog 26 #[t.agg] w fun e w' => ∃ a c a2 c2, e = .returned ({ t with ca := a, cc := c, ka := a2, kc := c2 } : Tb).agg ∧ TabIn (fun g => w.heap.size ≤ g) w' { t with ca := a, cc := c, ka := a2, kc := c2 } ∧ RowT w' { t with ca := a, cc := c, ka := a2, kc := c2 } ∧ Fr w w' (fun _ => False) := by
  obtain ⟨B, hB⟩ : ∃ B, B = w.heap.size := ⟨_, rfl⟩
  obtain ⟨w1, hw1⟩ : ∃ w1, w1 = w.alloc (.cells #[.int .i64 t.id, .string t.name, .slice t.ca t.cn t.cc, .slice t.ka t.kn t.kc, .bool t.ix] 43) := ⟨_, rfl⟩
  have b1 : BoxD w1 B t := by rw [hw1, hB]; exact heap_alloc_new w _
  have f1 : Fr w w1 (fun _ => False) := by rw [hw1]; exact Fr.alloc w _ _
  have s1 : w1.heap.size = B + 1 := by rw [hw1, hB]; simp
  obtain ⟨w2, hw2⟩ : ∃ w2, w2 = w1.alloc (.cells #[.int .i64 0, .string ⟨#[]⟩, .slice none 0 0, .slice none 0 0, .bool false] 43) := ⟨_, rfl⟩
  have f2 : Fr w1 w2 (fun _ => False) := by rw [hw2]; exact Fr.alloc w1 _ _
  have z2 : BoxD w2 (B + 1) zeroT := by rw [hw2, ← s1]; exact heap_alloc_new w1 _
  have s2 : w2.heap.size = B + 2 := by rw [hw2]; simp [s1]
  have b2 := b1.fr f2 (fun h => h)
  have t2 := h.fr (f1.two f2) (fun _ _ h => h)
  obtain ⟨a, c, w4, hr4, o4, n4, f4⟩ := cat_cols (w := w2) t.ca t.cn t.cc t.C t2.cols t2.cn t2.cb t2.cs
  obtain ⟨w3, hw3⟩ : ∃ w3, w3 = w2.alloc (.cells #[] 37) := ⟨_, rfl⟩
  rw [← hw3] at hr4
  obtain ⟨x0, x1, x2, x3, x4⟩ := (b2.fr (show Fr w2 w3 (fun _ => False) by rw [hw3]; exact Fr.alloc _ _ _) (fun h => h)).cells
  have b4 := b2.fr f4 (fun h => h)
  obtain ⟨y0, y1, y2, y3, y4⟩ := b4.cells
  have p2 := b4.frozen 2
  obtain ⟨w5, hw5⟩ : ∃ w5, w5 = w4.setCell ⟨B, 2, none⟩ (.slice a t.cn c) := ⟨_, rfl⟩
  have f5 : Fr w4 w5 (fun k => k = B) := by rw [hw5]; exact Fr.setCell _ _ _
  have b5 : BoxD w5 B { t with ca := a, cc := c } := by rw [hw5]; exact heap_setCell_here w4 B 2 (.slice a t.cn c) _ _ _ b4
  have F5 := ((f1.two f2).two f4).trans f5
  have G5 : Fr w w5 (fun _ => False) := F5.mono (fun k hk h => by rcases h with h | h; exact h; omega)
  have t5 := h.fr G5 (fun _ _ h => h)
  have o5 := ownsRow_fr o4 f5 (fun k hk h => by have := n4 k hk; omega)
  obtain ⟨a2, c2, w7, hr7, o7, n7, f7⟩ := cat_strs (w := w5) t.ka t.kn t.kc t.K t5.keys t5.kn t5.kb t5.ks
  obtain ⟨w6, hw6⟩ : ∃ w6, w6 = w5.alloc (.cells #[] 9) := ⟨_, rfl⟩
  rw [← hw6] at hr7
  obtain ⟨u0, u1, u2, u3, u4⟩ := (b5.fr (show Fr w5 w6 (fun _ => False) by rw [hw6]; exact Fr.alloc _ _ _) (fun h => h)).cells
  have b7 := b5.fr f7 (fun h => h)
  obtain ⟨v0, v1, v2, v3, v4⟩ := b7.cells
  have p3 := b7.frozen 3
  obtain ⟨w8, hw8⟩ : ∃ w8, w8 = w7.setCell ⟨B, 3, none⟩ (.slice a2 t.kn c2) := ⟨_, rfl⟩
  have f8 : Fr w7 w8 (fun k => k = B) := by rw [hw8]; exact Fr.setCell _ _ _
  have b8 : BoxD w8 B { t with ca := a, cc := c, ka := a2, kc := c2 } := by rw [hw8]; exact heap_setCell_here w7 B 3 (.slice a2 t.kn c2) _ _ _ b7
  have s5 : B + 2 ≤ w5.heap.size := by have := f4.size; have := f5.size; omega
  have o8 := ownsRow_fr (ownsRow_fr o5 f7 (fun _ _ h => h)) f8 (fun k hk h => by have := n4 k hk; omega)
  have o9 := ownsRow_fr o7 f8 (fun k hk h => by have := n7 k hk; omega)
  have z8 : BoxD w8 (B + 1) zeroT := (((z2.fr f4 (fun h => h)).fr f5 (fun h => by omega)).fr f7 (fun h => h)).fr f8 (fun h => by omega)
  obtain ⟨i0, i1, i2, i3, i4⟩ := b8.cells
  obtain ⟨j0, j1, j2, j3, j4⟩ := z8.cells
  have r0 := z8.frozen 0
  have r1 := z8.frozen 1
  have r2 := z8.frozen 2
  have r3 := z8.frozen 3
  have r4 := z8.frozen 4
  obtain ⟨w9, hw9⟩ : ∃ w9, w9 = ((((w8.setCell ⟨B + 1, 0, none⟩ (.int .i64 t.id)).setCell ⟨B + 1, 1, none⟩ (.string t.name)).setCell ⟨B + 1, 2, none⟩ (.slice a t.cn c)).setCell ⟨B + 1, 3, none⟩ (.slice a2 t.kn c2)).setCell ⟨B + 1, 4, none⟩ (.bool t.ix) := ⟨_, rfl⟩
  have HB9 := hide (z8.fill (t' := { t with ca := a, cc := c, ka := a2, kc := c2 }) w9 hw9)
  have f9 := fr_fill (t' := { t with ca := a, cc := c, ka := a2, kc := c2 }) w9 hw9
  have HR9 : Hid (RowT w9 { t with ca := a, cc := c, ka := a2, kc := c2 }) := hide ⟨ownsRow_fr o8 f9 (fun k hk h => by have := n4 k hk; omega), ownsRow_fr o9 f9 (fun k hk h => by have := n7 k hk; omega)⟩
  have HT9 := hide (HR9.out.tab (P := fun g => w.heap.size ≤ g) h.cn h.cb h.kn h.kb h.id (fun k hk => by have := n4 k hk; omega) (fun k hk => by have := n7 k hk; omega))
  have HF9 := hide ((((G5.two f7).trans f8).trans f9).mono (Y := fun _ => False) (fun k hk h => by
    rcases h with (h | h) | h
    · exact h
    · omega
    · omega))
  unfold zeroT at j0 j1 j2 j3 j4
  dsimp only at u0 u1 u2 u3 u4 v0 v1 v2 v3 v4 i0 i1 i2 i3 i4
  rw [hw1] at hw2
  have HBB := hide hB
  have HS2 := hide s2
  have HW2 := hide hw2
  have HW3 := hide hw3
  have HW5 := hide hw5
  have HW6 := hide hw6
  have HW8 := hide hw8
  have HW9 := hide hw9
  rw [s2] at hr4
  obtain ⟨E, hE⟩ : ∃ E, E = w5.heap.size := ⟨_, rfl⟩
  rw [← hE] at hr7
  have HE := hide hE
  clear h b1 f1 hw1 s1 f2 z2 s2 b2 t2 o4 n4 f4 b4 f5 b5 F5 G5 t5 o5 o7 n7 f7 b7 f8 b8 s5 o8 o9 z8 f9 hB hw2 hw3 hw5 hw6 hw8 hw9 hE
  have hem := empty27
  have hem2 := empty28
  unfold Tb.agg
  go_enter Try.func26, Try.ntmps26
  go_wp2_with (first
    | (rw [← HBB.out, ← HW2.out]; clear HW2)
    | (rw [HS2.out, ← HW3.out]; clear HW3)
    | (refine wpList_plain rfl fun _ hK => wp_append_to (.tmp 3) (.tmp 5) 27 rfl _ rfl _ rfl (.slice (some ⟨B + 2, 0, none⟩) 0 0) (.slice t.ca t.cn t.cc) rfl rfl _ _ hr4 (hK _ _ ?_); clear hK)
    | (rw [← HW5.out]; clear HW5)
    | (rw [← HE.out, ← HW6.out]; clear HW6)
    | (refine wpList_plain rfl fun _ hK => wp_append_to (.tmp 8) (.tmp 10) 28 rfl _ rfl _ rfl (.slice (some ⟨E, 0, none⟩) 0 0) (.slice t.ka t.kn t.kc) rfl rfl _ _ hr7 (hK _ _ ?_); clear hK)
    | (rw [← HW8.out]; clear HW8)
    | (rw [← HW9.out]; clear HW9))
  exact bodyPost_ret (results_td Try.results26 _ _ (B + 1) HB9.out rfl) rfl ⟨a, c, a2, c2, rfl, HT9.out, HR9.out, HF9.out⟩
end Go.Proofs.Ytdeopneififnnaa
