/- touch: an entry about a page is seen. -/
import Derived.Test.YtcmabldfegcdaaaMe
namespace Go.Proofs.Ytcmabldfegcdaaa
open Go.RowKit
set_option maxRecDepth 100000
set_option linter.unusedVariables false
set_option linter.unusedSimpArgs false

/-- A Touched in a box of its own. -/
structure TB (w : World) (tb : Nat) (x : Tch) : Prop where
  c0 : w.cell? ⟨tb, 0, none⟩ = some (.int .i64 x.page)
  c1 : w.cell? ⟨tb, 1, none⟩ = some (.int .i64 x.first)
  c2 : w.cell? ⟨tb, 2, none⟩ = some (.int .i64 x.last)
  z : ∀ j, w.frozen? ⟨tb, j, none⟩ = false
theorem tb_of {w : World} {g : Nat} {x : Tch} {t : TypeId} (h : w.heap[g]? = some (.cells #[.int .i64 x.page, .int .i64 x.first, .int .i64 x.last] t (0, 0))) : TB w g x := by
  refine ⟨?_, ?_, ?_, ?_⟩
  all_goals first | (rw [cell_of_row _ _ _ _ _ _ h]; rfl) | (intro j; simp [World.frozen?, h])
theorem tb_new (w : World) (x : Tch) : TB (w.alloc (.cells #[.int .i64 x.page, .int .i64 x.first, .int .i64 x.last] 70)) w.heap.size x := tb_of (heap_alloc_new w _)
theorem TB.fr {w w' : World} {X : Nat → Prop} {tb : Nat} {x : Tch} (h : TB w tb x) (hf : Fr w w' X) (hx : ¬ X tb) : TB w' tb x := by
  have hb := hf.block tb (World.block_lt_of_cell? w _ h.c0) hx
  exact ⟨by rw [World.cell?_of_block (w := w) hb]; exact h.c0, by rw [World.cell?_of_block (w := w) hb]; exact h.c1, by rw [World.cell?_of_block (w := w) hb]; exact h.c2, fun j => by rw [World.frozen?_of_block (w := w) hb]; exact h.z j⟩
def fill3 (w : World) (g : Nat) (x : Tch) : World := ((w.setCell ⟨g, 0, none⟩ (.int .i64 x.page)).setCell ⟨g, 1, none⟩ (.int .i64 x.first)).setCell ⟨g, 2, none⟩ (.int .i64 x.last)
theorem TB.set0 {w : World} {g : Nat} {x : Tch} (h : TB w g x) (v : Int) : TB (w.setCell ⟨g, 0, none⟩ (.int .i64 v)) g ⟨v, x.first, x.last⟩ :=
  ⟨World.cell?_setCell_same _ _ _ h.c0, by rw [World.cell?_setCell_other _ _ _ _ (by simp)]; exact h.c1, by rw [World.cell?_setCell_other _ _ _ _ (by simp)]; exact h.c2, fun j => by rw [World.frozen?_setCell]; exact h.z j⟩
theorem TB.set1 {w : World} {g : Nat} {x : Tch} (h : TB w g x) (v : Int) : TB (w.setCell ⟨g, 1, none⟩ (.int .i64 v)) g ⟨x.page, v, x.last⟩ :=
  ⟨by rw [World.cell?_setCell_other _ _ _ _ (by simp)]; exact h.c0, World.cell?_setCell_same _ _ _ h.c1, by rw [World.cell?_setCell_other _ _ _ _ (by simp)]; exact h.c2, fun j => by rw [World.frozen?_setCell]; exact h.z j⟩
theorem TB.set2 {w : World} {g : Nat} {x : Tch} (h : TB w g x) (v : Int) : TB (w.setCell ⟨g, 2, none⟩ (.int .i64 v)) g ⟨x.page, x.first, v⟩ :=
  ⟨by rw [World.cell?_setCell_other _ _ _ _ (by simp)]; exact h.c0, by rw [World.cell?_setCell_other _ _ _ _ (by simp)]; exact h.c1, World.cell?_setCell_same _ _ _ h.c2, fun j => by rw [World.frozen?_setCell]; exact h.z j⟩
theorem TB.fill {w : World} {g : Nat} {y : Tch} (h : TB w g y) (x : Tch) : TB (fill3 w g x) g x := ((h.set0 x.page).set1 x.first).set2 x.last
theorem fill3_fr (w : World) (g : Nat) (x : Tch) : Fr w (fill3 w g x) (fun k => k = g) :=
  (((Fr.setCell w ⟨g, 0, none⟩ _).trans (Fr.setCell _ ⟨g, 1, none⟩ _)).trans (Fr.setCell _ ⟨g, 2, none⟩ _)).mono (fun q hq h => by rcases h with (h | h) | h <;> exact h)
theorem Fr.past {w w1 w2 : World} {X : Nat → Prop} {g : Nat} (h : Fr w w1 X) (h2 : Fr w1 w2 (fun k => k = g)) (hg : w.heap.size ≤ g) : Fr w w2 X :=
  (h.trans h2).mono (by intro k hk h; rcases h with h | h; exact h; exact absurd hk (by have h : k = g := h; omega))

set_option maxHeartbeats 4000000 in
theorem touch_any {w : World} {sb gt gp n : Nat} {cv : Value} {C : List Stp} {f : Int → Option Int} {fp : Int → Option Tch} (h : SeenAt w sb gt gp n cv C f fp) (e : Ent) (ea : Option Addr) (ec : Nat) (hx : In64 e.txn) (hxp : In64 e.page) (m : Int) (hn : n ≤ 4398046511104) :
    Calls Try.prog 15 #[.pointer (some ⟨sb, 0, none⟩), entV e ea ec, .int .i64 m] w fun x w' => x = .returned (.tuple #[]) ∧ SeenAt w' sb gt gp (n + 1 + 1) cv C (fun y => if y = e.txn then some ((f e.txn).getD 0) else f y) (fun y => if y = e.page then some ⟨e.page, ((fp e.page).map Tch.first).getD m, m⟩ else fp y) ∧ Fr w w' (fun k => k = gt ∨ k = gp) := by
  have HSw := hide h
  have HX := hide hx
  have HXP := hide hxp
  obtain ⟨c, hc⟩ : ∃ c, (f e.txn).getD 0 = c := ⟨_, rfl⟩
  have HC : Hid ((f e.txn).getD eInt.z = c) := hide hc
  obtain ⟨t, ht⟩ : ∃ t, (fp e.page).getD eTch.z = t := ⟨_, rfl⟩
  obtain ⟨kn, hk⟩ : ∃ kn, (fp e.page).isSome = kn := ⟨_, rfl⟩
  obtain ⟨fi, hfi⟩ : ∃ fi, ((fp e.page).map Tch.first).getD m = fi := ⟨_, rfl⟩
  have HT := hide ht
  have HK := hide hk
  have HFI := hide hfi
  rw [hc, hfi]
  clear h hx hxp hc ht hk hfi
  go_enter Try.func15, Try.ntmps15
  go_wp2_with fail
  rename_i cs hcs
  obtain rfl : cs = #[.int .i64 e.kind, .int .i64 e.txn, .int .i64 e.page, .int .i64 e.slot, .int .i64 e.stamp, .slice ea e.data.length ec] := by unfold entV at hcs; injection hcs with h; exact h.symm
  clear hcs
  obtain ⟨ob, hob⟩ : ∃ ob, ob = w.heap.size := ⟨_, rfl⟩
  rw [← hob]
  have HOB := hide (HSw.out.away hob)
  have HSW1 := hide (HSw.out.fr (Fr.alloc w (.cells #[.int .i64 e.kind, .int .i64 e.txn, .int .i64 e.page, .int .i64 e.slot, .int .i64 e.stamp, .slice ea e.data.length ec] 31) (fun _ => False)))
  have HEW1 : Hid (EntB (w.alloc (.cells #[.int .i64 e.kind, .int .i64 e.txn, .int .i64 e.page, .int .i64 e.slot, .int .i64 e.stamp, .slice ea e.data.length ec] 31)) ob e) := hide (by subst hob; exact ⟨by rw [cell_of_row _ _ _ _ _ _ (heap_alloc_new w _)]; rfl, by rw [cell_of_row _ _ _ _ _ _ (heap_alloc_new w _)]; rfl, by rw [cell_of_row _ _ _ _ _ _ (heap_alloc_new w _)]; rfl⟩)
  have HFW1 := hide ((Fr.alloc w (.cells #[.int .i64 e.kind, .int .i64 e.txn, .int .i64 e.page, .int .i64 e.slot, .int .i64 e.stamp, .slice ea e.data.length ec] 31) (fun _ => False)).mono (Y := fun k => k = gt ∨ k = gp) (by intro k _ h; exact h.elim))
  have HCB : Hid (0 ≤ c ∧ c ≤ (n : Int)) := hide (by have h1 := HC.out; cases hf : f e.txn with | none => rw [hf] at h1; have h1 : (0 : Int) = c := h1; omega | some y => rw [hf] at h1; have h1 : y = c := h1; have := HSw.out.cnt _ _ hf; omega)
  have HOE := hide hob
  clear hob
  generalize w.alloc (.cells #[.int .i64 e.kind, .int .i64 e.txn, .int .i64 e.page, .int .i64 e.slot, .int .i64 e.stamp, .slice ea e.data.length ec] 31) = W1 at *
  refine wp_region_K (fun q => decide (q ≠ 8)) (fun V : World => V.cell? ⟨sb, 1, none⟩ = some (.map (some gt)) ∧ V.cell? ⟨ob, 1, none⟩ = some (.int .i64 e.txn) ∧ MapF eInt V gt n f) (by kernel_rfl) ?_
  have HSW2 := hide (HSW1.out.fr (Fr.drew W1 (fun _ => False)))
  have HEW2 := hide (HEW1.out.fr (Fr.drew W1 (fun _ => False)) (fun h => h))
  have HFW2 := hide ((HFW1.out.trans (Fr.drew W1 (fun _ => False))).mono (Y := fun k => k = gt ∨ k = gp) (by intro k _ h; rcases h with h | h; exact h; exact h.elim))
  clear HSW1 HEW1 HFW1
  generalize W1.drew = W2 at *
  have hS : (fun V : World => V.cell? ⟨sb, 1, none⟩ = some (.map (some gt)) ∧ V.cell? ⟨ob, 1, none⟩ = some (.int .i64 e.txn) ∧ MapF eInt V gt n f) W2 := ⟨HSW2.out.c1, HEW2.out.c1, HSW2.out.txn⟩
  refine wpAnyK_takeTo 0 (some 8) (.pointer (some ⟨sb, 0, none⟩)) [8] rfl rfl (by kernel_rfl) (by kernel_rfl) (by kernel_rfl) (by kernel_rfl) (fun _ _ _ h => h) hS (Or.inl ⟨rfl, fun w1 hw1 => by go_simp⟩) ?_
  simp only [Act.put, List.setIfInBounds_toArray, List.set_cons_zero, List.set_cons_succ]
  refine wpAnyK_takeTo 1 (some 9) (.pointer (some ⟨sb, 0, none⟩)) [8] rfl rfl (by kernel_rfl) (by kernel_rfl) (by kernel_rfl) (by kernel_rfl) (fun _ _ _ h => h) hS (Or.inl ⟨rfl, fun w1 hw1 => by go_simp⟩) ?_
  simp only [Act.put, List.setIfInBounds_toArray, List.set_cons_zero, List.set_cons_succ]
  refine wpAnyK_takeTo 2 (some 10) (.pointer (some ⟨sb, 1, none⟩)) [8] rfl rfl (by kernel_rfl) (by kernel_rfl) (by kernel_rfl) (by kernel_rfl) (fun _ _ _ h => h) hS (Or.inl ⟨rfl, fun w1 hw1 => by go_simp⟩) ?_
  simp only [Act.put, List.setIfInBounds_toArray, List.set_cons_zero, List.set_cons_succ]
  refine wpAnyK_takeTo 3 (some 11) (.map (some gt)) [8] rfl rfl (by kernel_rfl) (by kernel_rfl) (by kernel_rfl) (by kernel_rfl) (fun _ _ _ h => h) hS (Or.inl ⟨rfl, fun w1 hw1 => by obtain ⟨x1, x2, x3⟩ := hw1; clear x3; go_simp⟩) ?_
  simp only [Act.put, List.setIfInBounds_toArray, List.set_cons_zero, List.set_cons_succ]
  refine wpAnyK_takeTo 4 (some 12) (.pointer (some ⟨ob, 1, none⟩)) [8] rfl rfl (by kernel_rfl) (by kernel_rfl) (by kernel_rfl) (by kernel_rfl) (fun _ _ _ h => h) hS (Or.inl ⟨rfl, fun w1 hw1 => by go_simp⟩) ?_
  simp only [Act.put, List.setIfInBounds_toArray, List.set_cons_zero, List.set_cons_succ]
  refine wpAnyK_takeTo 5 (some 13) (.int .i64 e.txn) [8] rfl rfl (by kernel_rfl) (by kernel_rfl) (by kernel_rfl) (by kernel_rfl) (fun _ _ _ h => h) hS (Or.inl ⟨rfl, fun w1 hw1 => by obtain ⟨x1, x2, x3⟩ := hw1; clear x3; go_simp⟩) ?_
  simp only [Act.put, List.setIfInBounds_toArray, List.set_cons_zero, List.set_cons_succ]
  refine wpAnyK_takeTo 6 (some 14) (.int .i64 c) [8] rfl rfl (by kernel_rfl) (by kernel_rfl) (by kernel_rfl) (by kernel_rfl) (fun _ _ _ h => h) hS (Or.inl ⟨rfl, fun w1 hw1 => by obtain ⟨x1, x2, x3⟩ := hw1; have hlk : (Instr.lookup 52 (.map (some gt)) (.int .i64 e.txn) false).run Try.prog w1 = .ok (.int .i64 c) w1 := by { have := x3.look HX.out; rw [HC.out] at this; exact this }; clear x3; go_simp⟩) ?_
  simp only [Act.put, List.setIfInBounds_toArray, List.set_cons_zero, List.set_cons_succ]
  refine wpAnyK_takeTo 7 (some 15) (.int .i64 c) [8] rfl rfl (by kernel_rfl) (by kernel_rfl) (by kernel_rfl) (by kernel_rfl) (fun _ _ _ h => h) hS (Or.inl ⟨rfl, fun w1 hw1 => by have hb := HCB.out; clear hw1; go_simp; first | done | exact wrap_i64_fit _ (by omega) (by omega)⟩) ?_
  simp only [Act.put, List.setIfInBounds_toArray, List.set_cons_zero, List.set_cons_succ]
  obtain ⟨W3, hrun, m1, m2⟩ := HSW2.out.txn.put (by unfold maxLen; omega) HX.out c
  have hrun : (Instr.mapUpdate 52 (.map (some gt)) (.int .i64 e.txn) (.int .i64 c)).run Try.prog W2 = .ok () W3 := hrun
  have HSW3 := hide (HSW2.out.putT m1 m2 (by intro x d hd; have := HCB.out; split at hd; (obtain rfl := Option.some.inj hd; omega); (have := HSW2.out.cnt x d hd; omega)))
  have HEW3 := hide (HEW2.out.fr m2 (fun h => HOB.out.2.1 h))
  have HFW3 := hide ((HFW2.out.trans m2).mono (Y := fun k => k = gt ∨ k = gp) (by intro k _ h; rcases h with h | h; exact h; exact .inl h))
  clear m1 m2 hS HSW2 HEW2 HFW2
  refine wpAnyK_one (i := 8) (by kernel_rfl) rfl rfl ?_
  go_simp
  first | refine ⟨fun h => by cases h, ?_⟩ | skip
  refine wpAnyK_done (by kernel_rfl) ?_ _
  clear hrun
  go_wp2_with fail
  refine wp_region_K (fun _ => true) (fun V : World => V.cell? ⟨sb, 2, none⟩ = some (.map (some gp)) ∧ V.cell? ⟨ob, 2, none⟩ = some (.int .i64 e.page) ∧ MapF eTch V gp (n + 1) fp) (by kernel_rfl) ?_
  have HSW4 := hide (HSW3.out.fr (Fr.drew W3 (fun _ => False)))
  have HEW4 := hide (HEW3.out.fr (Fr.drew W3 (fun _ => False)) (fun h => h))
  have HFW4 := hide ((HFW3.out.trans (Fr.drew W3 (fun _ => False))).mono (Y := fun k => k = gt ∨ k = gp) (by intro k _ h; rcases h with h | h; exact h; exact h.elim))
  clear HSW3 HEW3 HFW3
  generalize W3.drew = W4 at *
  have hS : (fun V : World => V.cell? ⟨sb, 2, none⟩ = some (.map (some gp)) ∧ V.cell? ⟨ob, 2, none⟩ = some (.int .i64 e.page) ∧ MapF eTch V gp (n + 1) fp) W4 := ⟨HSW4.out.c2, HEW4.out.c2, HSW4.out.pgs⟩
  refine wpAnyK_takeTo 0 (some 17) (.pointer (some ⟨sb, 0, none⟩)) [] rfl rfl (by kernel_rfl) (by kernel_rfl) (by kernel_rfl) (by kernel_rfl) (fun _ _ _ h => h) hS (Or.inl ⟨rfl, fun w1 hw1 => by go_simp⟩) ?_
  simp only [Act.put, List.setIfInBounds_toArray, List.set_cons_zero, List.set_cons_succ]
  refine wpAnyK_takeTo 1 (some 18) (.pointer (some ⟨sb, 0, none⟩)) [] rfl rfl (by kernel_rfl) (by kernel_rfl) (by kernel_rfl) (by kernel_rfl) (fun _ _ _ h => h) hS (Or.inl ⟨rfl, fun w1 hw1 => by go_simp⟩) ?_
  simp only [Act.put, List.setIfInBounds_toArray, List.set_cons_zero, List.set_cons_succ]
  refine wpAnyK_takeTo 2 (some 19) (.pointer (some ⟨sb, 2, none⟩)) [] rfl rfl (by kernel_rfl) (by kernel_rfl) (by kernel_rfl) (by kernel_rfl) (fun _ _ _ h => h) hS (Or.inl ⟨rfl, fun w1 hw1 => by go_simp⟩) ?_
  simp only [Act.put, List.setIfInBounds_toArray, List.set_cons_zero, List.set_cons_succ]
  refine wpAnyK_takeTo 3 (some 20) (.map (some gp)) [] rfl rfl (by kernel_rfl) (by kernel_rfl) (by kernel_rfl) (by kernel_rfl) (fun _ _ _ h => h) hS (Or.inl ⟨rfl, fun w1 hw1 => by obtain ⟨x1, x2, x3⟩ := hw1; clear x3; go_simp⟩) ?_
  simp only [Act.put, List.setIfInBounds_toArray, List.set_cons_zero, List.set_cons_succ]
  refine wpAnyK_takeTo 4 (some 21) (.pointer (some ⟨ob, 2, none⟩)) [] rfl rfl (by kernel_rfl) (by kernel_rfl) (by kernel_rfl) (by kernel_rfl) (fun _ _ _ h => h) hS (Or.inl ⟨rfl, fun w1 hw1 => by go_simp⟩) ?_
  simp only [Act.put, List.setIfInBounds_toArray, List.set_cons_zero, List.set_cons_succ]
  refine wpAnyK_takeTo 5 (some 22) (.int .i64 e.page) [] rfl rfl (by kernel_rfl) (by kernel_rfl) (by kernel_rfl) (by kernel_rfl) (fun _ _ _ h => h) hS (Or.inl ⟨rfl, fun w1 hw1 => by obtain ⟨x1, x2, x3⟩ := hw1; clear x3; go_simp⟩) ?_
  simp only [Act.put, List.setIfInBounds_toArray, List.set_cons_zero, List.set_cons_succ]
  refine wpAnyK_takeTo 6 (some 23) (.tuple #[.agg #[.int .i64 t.page, .int .i64 t.first, .int .i64 t.last], .bool kn]) [] rfl rfl (by kernel_rfl) (by kernel_rfl) (by kernel_rfl) (by kernel_rfl) (fun _ _ _ h => h) hS (Or.inl ⟨rfl, fun w1 hw1 => by obtain ⟨x1, x2, x3⟩ := hw1; have hlk : (Instr.lookup 53 (.map (some gp)) (.int .i64 e.page) true).run Try.prog w1 = .ok (.tuple #[.agg #[.int .i64 t.page, .int .i64 t.first, .int .i64 t.last], .bool kn]) w1 := by { have := x3.look_ok HXP.out; rw [HT.out, HK.out] at this; exact this }; clear x3; go_simp⟩) ?_
  simp only [Act.put, List.setIfInBounds_toArray, List.set_cons_zero, List.set_cons_succ]
  refine wpAnyK_takeTo 7 (some 16) (.tuple #[.agg #[.int .i64 t.page, .int .i64 t.first, .int .i64 t.last], .bool kn]) [] rfl rfl (by kernel_rfl) (by kernel_rfl) (by kernel_rfl) (by kernel_rfl) (fun _ _ _ h => h) hS (Or.inl ⟨rfl, fun w1 hw1 => by go_simp⟩) ?_
  simp only [Act.put, List.setIfInBounds_toArray, List.set_cons_zero, List.set_cons_succ]
  refine wpAnyK_takeTo 8 (some 24) (.agg #[.int .i64 t.page, .int .i64 t.first, .int .i64 t.last]) [] rfl rfl (by kernel_rfl) (by kernel_rfl) (by kernel_rfl) (by kernel_rfl) (fun _ _ _ h => h) hS (Or.inl ⟨rfl, fun w1 hw1 => by go_simp⟩) ?_
  simp only [Act.put, List.setIfInBounds_toArray, List.set_cons_zero, List.set_cons_succ]
  refine wpAnyK_takeTo 9 (some 25) (.bool kn) [] rfl rfl (by kernel_rfl) (by kernel_rfl) (by kernel_rfl) (by kernel_rfl) (fun _ _ _ h => h) hS (Or.inl ⟨rfl, fun w1 hw1 => by go_simp⟩) ?_
  simp only [Act.put, List.setIfInBounds_toArray, List.set_cons_zero, List.set_cons_succ]
  obtain ⟨tb, htb⟩ : ∃ tb, tb = W4.heap.size := ⟨_, rfl⟩
  have HTB := hide (HSW4.out.away htb)
  have HTO : Hid (tb ≠ ob) := hide (by have := World.block_lt_of_cell? W4 _ HEW4.out.c1; have this : ob < W4.heap.size := this; omega)
  have HT5 := hide (show TB (W4.alloc (.cells #[.int .i64 0, .int .i64 0, .int .i64 0] 70)) tb ⟨0, 0, 0⟩ by subst htb; exact tb_new W4 ⟨0, 0, 0⟩)
  have F5 := Fr.alloc W4 (.cells #[.int .i64 0, .int .i64 0, .int .i64 0] 70) (fun _ => False)
  have HSW5 := hide (HSW4.out.fr F5)
  have HEW5 := hide (HEW4.out.fr F5 (fun h => h))
  have HFW5 := hide ((HFW4.out.trans F5).mono (Y := fun k => k = gt ∨ k = gp) (by intro k _ h; rcases h with h | h; exact h; exact h.elim))
  have HTW : Hid (w.heap.size ≤ tb) := hide (by have := HFW4.out.size; omega)
  refine wpAnyK_one (i := 10) (by kernel_rfl) rfl rfl ?_
  go_simp
  rw [← htb]
  clear hS F5 HSW4 HEW4 HFW4 htb
  generalize W4.alloc (.cells #[.int .i64 0, .int .i64 0, .int .i64 0] 70) = W5 at *
  refine ⟨⟨HSW5.out.c2, HEW5.out.c2, HSW5.out.pgs⟩, ?_⟩
  have HF6 := fill3_fr W5 tb t
  have HT6 := hide (HT5.out.fill t)
  have HSW6 := hide (HSW5.out.apart HF6 (fun h => HTB.out.1 h.symm) (fun h => HTB.out.2.1 h.symm) (fun h => HTB.out.2.2.1 h.symm) (fun q hq h => HTB.out.2.2.2 q hq h))
  have HEW6 := hide (HEW5.out.fr HF6 (fun h => HTO.out h.symm))
  have HFW6 := hide ((HFW5.out.past HF6 HTW.out))
  have y0 := HT5.out.c0
  have y1 := HT5.out.c1
  have y2 := HT5.out.c2
  have z0 := HT5.out.z 0
  have z1 := HT5.out.z 1
  have z2 := HT5.out.z 2
  clear HT5 HSW5 HEW5 HFW5 HF6
  obtain ⟨W6, hW6⟩ : ∃ W6, W6 = fill3 W5 tb t := ⟨_, rfl⟩
  rw [← hW6] at HSW6 HEW6 HFW6 HT6
  unfold fill3 at hW6
  have HW6 := hide hW6
  clear hW6
  refine wpAnyK_one (i := 11) (by kernel_rfl) rfl rfl ?_
  go_simp
  rw [← HW6.out]
  clear HW6 y0 y1 y2 z0 z1 z2
  refine ⟨⟨HSW6.out.c2, HEW6.out.c2, HSW6.out.pgs⟩, ?_⟩
  refine wpAnyK_one (i := 12) (by kernel_rfl) rfl rfl ?_
  go_simp
  refine ⟨⟨HSW6.out.c2, HEW6.out.c2, HSW6.out.pgs⟩, ?_⟩
  refine wpAnyK_done (by kernel_rfl) ?_ _
  cases kn
  · have x2 := HEW6.out.c2
    have HM : Hid (m = fi) := hide (by have h1 := HFI.out; have h2 := HK.out; cases hq : fp e.page with | none => rw [hq] at h1; exact h1 | some y => rw [hq] at h2; cases h2)
    have y0 := HT6.out.c0
    have y1 := HT6.out.c1
    have y2 := HT6.out.c2
    have z0 := HT6.out.z 0
    have z1 := HT6.out.z 1
    have z2 := HT6.out.z 2
    go_wp2_with fail
    clear x2 y0 y1 y2 z0 z1 z2
    obtain ⟨W7, hW7⟩ : ∃ W7, W7 = ((((W6.setCell ⟨tb, 0, none⟩ (.int .i64 e.page)).setCell ⟨tb, 1, none⟩ (.int .i64 m)).setCell ⟨tb, 2, none⟩ (.int .i64 0)).setCell ⟨tb, 2, none⟩ (.int .i64 m)) := ⟨_, rfl⟩
    rw [← hW7]
    have F7 : Fr W6 W7 (fun k => k = tb) := by rw [hW7]; exact ((fill3_fr W6 tb ⟨e.page, m, 0⟩).trans (Fr.setCell _ ⟨tb, 2, none⟩ (.int .i64 m))).mono (fun q hq h => by rcases h with h | h <;> exact h)
    have HT7 : Hid (TB W7 tb ⟨e.page, fi, m⟩) := hide (by rw [hW7]; rw [← HM.out]; exact (HT6.out.fill ⟨e.page, m, 0⟩).set2 m)
    have HSW7 := hide (HSW6.out.apart F7 (fun h => HTB.out.1 h.symm) (fun h => HTB.out.2.1 h.symm) (fun h => HTB.out.2.2.1 h.symm) (fun q hq h => HTB.out.2.2.2 q hq h))
    have HEW7 := hide (HEW6.out.fr F7 (fun h => HTO.out h.symm))
    have HFW7 := hide (HFW6.out.past F7 HTW.out)
    clear hW7 F7 HT6 HSW6 HEW6 HFW6
    refine wp_region_K (fun q => decide (q ≠ 7)) (fun V : World => V.cell? ⟨sb, 2, none⟩ = some (.map (some gp)) ∧ V.cell? ⟨ob, 2, none⟩ = some (.int .i64 e.page) ∧ TB V tb ⟨e.page, fi, m⟩) (by kernel_rfl) ?_
    have HSW8 := hide (HSW7.out.fr (Fr.drew W7 (fun _ => False)))
    have HEW8 := hide (HEW7.out.fr (Fr.drew W7 (fun _ => False)) (fun h => h))
    have HFW8 := hide ((HFW7.out.trans (Fr.drew W7 (fun _ => False))).mono (Y := fun k => k = gt ∨ k = gp) (by intro k _ h; rcases h with h | h; exact h; exact h.elim))
    clear HSW7 HEW7 HFW7
    have HT8 := hide (HT7.out.fr (Fr.drew W7 (fun _ => False)) (fun h => h))
    clear HT7
    generalize W7.drew = W8 at *
    have hS : (fun V : World => V.cell? ⟨sb, 2, none⟩ = some (.map (some gp)) ∧ V.cell? ⟨ob, 2, none⟩ = some (.int .i64 e.page) ∧ TB V tb ⟨e.page, fi, m⟩) W8 := ⟨HSW8.out.c2, HEW8.out.c2, HT8.out⟩
    refine wpAnyK_takeTo 0 (some 34) (.pointer (some ⟨sb, 0, none⟩)) [7] rfl rfl (by kernel_rfl) (by kernel_rfl) (by kernel_rfl) (by kernel_rfl) (fun _ _ _ h => h) hS (Or.inl ⟨rfl, fun w1 hw1 => by go_simp⟩) ?_
    simp only [Act.put, List.setIfInBounds_toArray, List.set_cons_zero, List.set_cons_succ]
    refine wpAnyK_takeTo 1 (some 35) (.pointer (some ⟨sb, 0, none⟩)) [7] rfl rfl (by kernel_rfl) (by kernel_rfl) (by kernel_rfl) (by kernel_rfl) (fun _ _ _ h => h) hS (Or.inl ⟨rfl, fun w1 hw1 => by go_simp⟩) ?_
    simp only [Act.put, List.setIfInBounds_toArray, List.set_cons_zero, List.set_cons_succ]
    refine wpAnyK_takeTo 2 (some 36) (.pointer (some ⟨sb, 2, none⟩)) [7] rfl rfl (by kernel_rfl) (by kernel_rfl) (by kernel_rfl) (by kernel_rfl) (fun _ _ _ h => h) hS (Or.inl ⟨rfl, fun w1 hw1 => by go_simp⟩) ?_
    simp only [Act.put, List.setIfInBounds_toArray, List.set_cons_zero, List.set_cons_succ]
    refine wpAnyK_takeTo 3 (some 37) (.map (some gp)) [7] rfl rfl (by kernel_rfl) (by kernel_rfl) (by kernel_rfl) (by kernel_rfl) (fun _ _ _ h => h) hS (Or.inl ⟨rfl, fun w1 hw1 => by obtain ⟨x1, x2, x3⟩ := hw1; clear x3; go_simp⟩) ?_
    simp only [Act.put, List.setIfInBounds_toArray, List.set_cons_zero, List.set_cons_succ]
    refine wpAnyK_takeTo 4 (some 38) (.pointer (some ⟨ob, 2, none⟩)) [7] rfl rfl (by kernel_rfl) (by kernel_rfl) (by kernel_rfl) (by kernel_rfl) (fun _ _ _ h => h) hS (Or.inl ⟨rfl, fun w1 hw1 => by go_simp⟩) ?_
    simp only [Act.put, List.setIfInBounds_toArray, List.set_cons_zero, List.set_cons_succ]
    refine wpAnyK_takeTo 5 (some 39) (.int .i64 e.page) [7] rfl rfl (by kernel_rfl) (by kernel_rfl) (by kernel_rfl) (by kernel_rfl) (fun _ _ _ h => h) hS (Or.inl ⟨rfl, fun w1 hw1 => by obtain ⟨x1, x2, x3⟩ := hw1; clear x3; go_simp⟩) ?_
    simp only [Act.put, List.setIfInBounds_toArray, List.set_cons_zero, List.set_cons_succ]
    refine wpAnyK_takeTo 6 (some 40) (.agg #[.int .i64 e.page, .int .i64 fi, .int .i64 m]) [7] rfl rfl (by kernel_rfl) (by kernel_rfl) (by kernel_rfl) (by kernel_rfl) (fun _ _ _ h => h) hS (Or.inl ⟨rfl, fun w1 hw1 => by obtain ⟨x1, x2, x3⟩ := hw1; have y0 := x3.c0; have y1 := x3.c1; have y2 := x3.c2; clear x3; go_simp⟩) ?_
    simp only [Act.put, List.setIfInBounds_toArray, List.set_cons_zero, List.set_cons_succ]
    obtain ⟨V, hrun, m1, m2⟩ := HSW8.out.pgs.put (by unfold maxLen; omega) HXP.out ⟨e.page, fi, m⟩
    have hrun : (Instr.mapUpdate 53 (.map (some gp)) (.int .i64 e.page) (.agg #[.int .i64 e.page, .int .i64 fi, .int .i64 m])).run Try.prog W8 = .ok () V := hrun
    have HM1 := hide m1
    have HM2 := hide m2
    clear m1 m2 hS
    refine wpAnyK_one (i := 7) (by kernel_rfl) rfl rfl ?_
    go_simp
    first | refine ⟨fun h => by cases h, ?_⟩ | skip
    refine wpAnyK_done (by kernel_rfl) ?_ _
    clear hrun
    go_wp2
    go_end0
    refine ⟨rfl, HSW8.out.putP HM1.out HM2.out ?_, (HFW8.out.trans HM2.out).mono (by intro k _ h1; rcases h1 with h1 | h1; exact h1; exact .inr h1)⟩
    intro x y hy
    split at hy
    · obtain rfl := Option.some.inj hy
      exact Eq.symm (by assumption)
    · exact HSW8.out.pg x y hy
  · have HP : Hid (t.page = e.page ∧ t.first = fi) := hide (by have h1 := HFI.out; have h2 := HK.out; have h3 := HT.out; cases hq : fp e.page with | none => rw [hq] at h2; cases h2 | some y => rw [hq] at h1 h3; have h3 : y = t := h3; subst h3; exact ⟨HSw.out.pg _ _ hq, h1⟩)
    have y0 := HT6.out.c0
    have y1 := HT6.out.c1
    have y2 := HT6.out.c2
    have z0 := HT6.out.z 0
    have z1 := HT6.out.z 1
    have z2 := HT6.out.z 2
    go_wp2_with fail
    clear y0 y1 y2 z0 z1 z2
    obtain ⟨W7, hW7⟩ : ∃ W7, W7 = (W6.setCell ⟨tb, 2, none⟩ (.int .i64 m)) := ⟨_, rfl⟩
    rw [← hW7]
    have F7 : Fr W6 W7 (fun k => k = tb) := by rw [hW7]; exact Fr.setCell _ ⟨tb, 2, none⟩ (.int .i64 m)
    have HT7 : Hid (TB W7 tb ⟨e.page, fi, m⟩) := hide (by rw [hW7]; rw [← HP.out.1, ← HP.out.2]; exact HT6.out.set2 m)
    have HSW7 := hide (HSW6.out.apart F7 (fun h => HTB.out.1 h.symm) (fun h => HTB.out.2.1 h.symm) (fun h => HTB.out.2.2.1 h.symm) (fun q hq h => HTB.out.2.2.2 q hq h))
    have HEW7 := hide (HEW6.out.fr F7 (fun h => HTO.out h.symm))
    have HFW7 := hide (HFW6.out.past F7 HTW.out)
    clear hW7 F7 HT6 HSW6 HEW6 HFW6
    refine wp_region_K (fun q => decide (q ≠ 7)) (fun V : World => V.cell? ⟨sb, 2, none⟩ = some (.map (some gp)) ∧ V.cell? ⟨ob, 2, none⟩ = some (.int .i64 e.page) ∧ TB V tb ⟨e.page, fi, m⟩) (by kernel_rfl) ?_
    have HSW8 := hide (HSW7.out.fr (Fr.drew W7 (fun _ => False)))
    have HEW8 := hide (HEW7.out.fr (Fr.drew W7 (fun _ => False)) (fun h => h))
    have HFW8 := hide ((HFW7.out.trans (Fr.drew W7 (fun _ => False))).mono (Y := fun k => k = gt ∨ k = gp) (by intro k _ h; rcases h with h | h; exact h; exact h.elim))
    clear HSW7 HEW7 HFW7
    have HT8 := hide (HT7.out.fr (Fr.drew W7 (fun _ => False)) (fun h => h))
    clear HT7
    generalize W7.drew = W8 at *
    have hS : (fun V : World => V.cell? ⟨sb, 2, none⟩ = some (.map (some gp)) ∧ V.cell? ⟨ob, 2, none⟩ = some (.int .i64 e.page) ∧ TB V tb ⟨e.page, fi, m⟩) W8 := ⟨HSW8.out.c2, HEW8.out.c2, HT8.out⟩
    refine wpAnyK_takeTo 0 (some 34) (.pointer (some ⟨sb, 0, none⟩)) [7] rfl rfl (by kernel_rfl) (by kernel_rfl) (by kernel_rfl) (by kernel_rfl) (fun _ _ _ h => h) hS (Or.inl ⟨rfl, fun w1 hw1 => by go_simp⟩) ?_
    simp only [Act.put, List.setIfInBounds_toArray, List.set_cons_zero, List.set_cons_succ]
    refine wpAnyK_takeTo 1 (some 35) (.pointer (some ⟨sb, 0, none⟩)) [7] rfl rfl (by kernel_rfl) (by kernel_rfl) (by kernel_rfl) (by kernel_rfl) (fun _ _ _ h => h) hS (Or.inl ⟨rfl, fun w1 hw1 => by go_simp⟩) ?_
    simp only [Act.put, List.setIfInBounds_toArray, List.set_cons_zero, List.set_cons_succ]
    refine wpAnyK_takeTo 2 (some 36) (.pointer (some ⟨sb, 2, none⟩)) [7] rfl rfl (by kernel_rfl) (by kernel_rfl) (by kernel_rfl) (by kernel_rfl) (fun _ _ _ h => h) hS (Or.inl ⟨rfl, fun w1 hw1 => by go_simp⟩) ?_
    simp only [Act.put, List.setIfInBounds_toArray, List.set_cons_zero, List.set_cons_succ]
    refine wpAnyK_takeTo 3 (some 37) (.map (some gp)) [7] rfl rfl (by kernel_rfl) (by kernel_rfl) (by kernel_rfl) (by kernel_rfl) (fun _ _ _ h => h) hS (Or.inl ⟨rfl, fun w1 hw1 => by obtain ⟨x1, x2, x3⟩ := hw1; clear x3; go_simp⟩) ?_
    simp only [Act.put, List.setIfInBounds_toArray, List.set_cons_zero, List.set_cons_succ]
    refine wpAnyK_takeTo 4 (some 38) (.pointer (some ⟨ob, 2, none⟩)) [7] rfl rfl (by kernel_rfl) (by kernel_rfl) (by kernel_rfl) (by kernel_rfl) (fun _ _ _ h => h) hS (Or.inl ⟨rfl, fun w1 hw1 => by go_simp⟩) ?_
    simp only [Act.put, List.setIfInBounds_toArray, List.set_cons_zero, List.set_cons_succ]
    refine wpAnyK_takeTo 5 (some 39) (.int .i64 e.page) [7] rfl rfl (by kernel_rfl) (by kernel_rfl) (by kernel_rfl) (by kernel_rfl) (fun _ _ _ h => h) hS (Or.inl ⟨rfl, fun w1 hw1 => by obtain ⟨x1, x2, x3⟩ := hw1; clear x3; go_simp⟩) ?_
    simp only [Act.put, List.setIfInBounds_toArray, List.set_cons_zero, List.set_cons_succ]
    refine wpAnyK_takeTo 6 (some 40) (.agg #[.int .i64 e.page, .int .i64 fi, .int .i64 m]) [7] rfl rfl (by kernel_rfl) (by kernel_rfl) (by kernel_rfl) (by kernel_rfl) (fun _ _ _ h => h) hS (Or.inl ⟨rfl, fun w1 hw1 => by obtain ⟨x1, x2, x3⟩ := hw1; have y0 := x3.c0; have y1 := x3.c1; have y2 := x3.c2; clear x3; go_simp⟩) ?_
    simp only [Act.put, List.setIfInBounds_toArray, List.set_cons_zero, List.set_cons_succ]
    obtain ⟨V, hrun, m1, m2⟩ := HSW8.out.pgs.put (by unfold maxLen; omega) HXP.out ⟨e.page, fi, m⟩
    have hrun : (Instr.mapUpdate 53 (.map (some gp)) (.int .i64 e.page) (.agg #[.int .i64 e.page, .int .i64 fi, .int .i64 m])).run Try.prog W8 = .ok () V := hrun
    have HM1 := hide m1
    have HM2 := hide m2
    clear m1 m2 hS
    refine wpAnyK_one (i := 7) (by kernel_rfl) rfl rfl ?_
    go_simp
    first | refine ⟨fun h => by cases h, ?_⟩ | skip
    refine wpAnyK_done (by kernel_rfl) ?_ _
    clear hrun
    go_wp2
    go_end0
    refine ⟨rfl, HSW8.out.putP HM1.out HM2.out ?_, (HFW8.out.trans HM2.out).mono (by intro k _ h1; rcases h1 with h1 | h1; exact h1; exact .inr h1)⟩
    intro x y hy
    split at hy
    · obtain rfl := Option.some.inj hy
      exact Eq.symm (by assumption)
    · exact HSW8.out.pg x y hy
end Go.Proofs.Ytcmabldfegcdaaa
