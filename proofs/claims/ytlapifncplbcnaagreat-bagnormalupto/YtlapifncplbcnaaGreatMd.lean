/- level: what it passes and what it tells. -/
import Derived.Test.YtlapifncplbcnaaGreatMc
namespace Go.Proofs.YtlapifncplbcnaaGreat
open Go.RowKit Go.Sort Go.Shelf
set_option maxRecDepth 100000
set_option linter.unusedVariables false
set_option linter.unusedSimpArgs false

/-- A box of one cell. -/
def Bx1 (w : World) (b : Nat) (v : Value) : Prop := w.cell? ⟨b, 0, none⟩ = some v ∧ w.frozen? ⟨b, 0, none⟩ = false
theorem bx1_of {w : World} {b : Nat} {v : Value} {t : TypeId} (h : w.heap[b]? = some (.cells #[v] t (0, 0))) : Bx1 w b v := ⟨by rw [cell_of_row _ _ _ _ _ _ h]; rfl, by simp [World.frozen?, h]⟩
theorem bx1_new (w : World) (v : Value) (t : TypeId) : Bx1 (w.alloc (.cells #[v] t)) w.heap.size v := bx1_of (heap_alloc_new w _)
theorem Bx1.fr {w w' : World} {X : Nat → Prop} {b : Nat} {v : Value} (h : Bx1 w b v) (hf : Fr w w' X) (hx : ¬ X b) : Bx1 w' b v := by
  have hb := hf.block b (World.block_lt_of_cell? w _ h.1) hx
  exact ⟨by rw [World.cell?_of_block (w := w) hb]; exact h.1, by rw [World.frozen?_of_block (w := w) hb]; exact h.2⟩
theorem Bx1.set {w : World} {b : Nat} {v : Value} (h : Bx1 w b v) (u : Value) : Bx1 (w.setCell ⟨b, 0, none⟩ u) b u :=
  ⟨World.cell?_setCell_same _ _ _ h.1, by rw [World.frozen?_setCell]; exact h.2⟩
theorem Bx1.lt {w : World} {b : Nat} {v : Value} (h : Bx1 w b v) : b < w.heap.size := World.block_lt_of_cell? w _ h.1
theorem fr_set {w w' : World} {X : Nat → Prop} (h : Fr w w' X) (b o : Nat) (u : Value) : Fr w (w'.setCell ⟨b, o, none⟩ u) (fun k => X k ∨ k = b) := (h.trans (Fr.setCell w' ⟨b, o, none⟩ u)).mono (fun k _ h => h)
set_option maxHeartbeats 2000000 in
theorem pass_any {w : World} {bt : Nat} {T n b lo hi : Int} {p : Option Addr} {l c : Nat} (hb : Bx1 w bt (.int .i64 T)) (h1 : -9223372036854775808 ≤ b * n ∧ b * n ≤ 9223372036854775807) (h2 : -9223372036854775808 ≤ T + b * n ∧ T + b * n ≤ 9223372036854775807) :
    Calls Tryz.prog 103 #[.agg #[.int .i64 lo, .int .i64 hi, .slice p l c, .int .i64 n], .int .i64 b, .pointer (some ⟨bt, 0, none⟩)] w fun e w' => e = .returned (.tuple #[]) ∧ Bx1 w' bt (.int .i64 (T + b * n)) ∧ Fr w w' (fun k => k = bt) := by
  have FA := Fr.alloc w (.cells #[.int .i64 lo, .int .i64 hi, .slice p l c, .int .i64 n] 79) (fun _ => False)
  have HWR : Hid (wrap64 (T + wrap64 (b * n)) = T + b * n) := hide (by unfold wrap64; omega)
  have hT := four_of (heap_alloc_new w (.cells #[.int .i64 lo, .int .i64 hi, .slice p l c, .int .i64 n] 79))
  have B := hb.fr FA (fun h => h)
  have HB := hide B
  have HF := hide FA
  have z0 := B.1
  have z1 := B.2
  have t3 := hT.2.2.2.1
  have hne : ¬ bt = w.heap.size := by have := hb.lt; omega
  clear hb FA B hT t3 h1 h2
  go_enter Tryz.func103, Tryz.ntmps103
  go_wp2
  go_end0
  rw [HWR.out]
  exact ⟨rfl, HB.out.set _, (fr_set HF.out bt 0 _).mono (by rintro k _ (h | h); exact h.elim; exact h)⟩
/-- What is told goes behind, or makes the last longer. -/
def tellQ (s0 : St) (Q : List St) (lo hi T : Int) : List St :=
  match Q.getLast? with
  | some q => if q.n = T then Q.dropLast ++ [⟨q.p, q.c, q.row, q.lo, hi, q.n⟩] else Q ++ [⟨s0.p, s0.c, s0.row, lo, hi, T⟩]
  | none => Q ++ [⟨s0.p, s0.c, s0.row, lo, hi, T⟩]
def TellR (w : World) (bo : Nat) (v : Value) (Q' : List St) (w' : World) : Prop := ∃ v', Own elS w' v' Q' ∧ Bx1 w' bo v' ∧ Fr w w' (fun k => k = bo ∨ v.ownBlock = some k) ∧ Fresh w v v'
theorem tell_fin {w V3 : World} {bo : Nat} {v v' u : Value} {Q' : List St} (ho : Own elS V3 v' Q') (hf : Fr w V3 (fun q => v.ownBlock = some q)) (hr : Fresh w v v') (hb : Bx1 V3 bo u) (hbo : bo < w.heap.size) (hnb : ¬ v.ownBlock = some bo) : TellR w bo v Q' (V3.setCell ⟨bo, 0, none⟩ v') := by
  have F := Fr.setCell V3 ⟨bo, 0, none⟩ v'
  refine ⟨v', ho.fr F (fun k hk e => ?_), hb.set v', ((hf.trans F).mono ?_), hr⟩
  · simp only at e
    subst e
    rcases hr with h | ⟨q, h1, h2⟩
    · exact hnb (by rw [← h]; exact hk)
    · rw [h1] at hk; injection hk with hk; omega
  · rintro k _ (h | h)
    · exact .inr h
    · exact .inl h
set_option maxHeartbeats 16000000 in
theorem tell_any {w : World} {bo bt bg g off m c : Nat} {v : Value} {Q : List St} {T lo hi : Int} {s0 : St} (hbo : Bx1 w bo v) (hbt : Bx1 w bt (.int .i64 T)) (hbg : Bx1 w bg (.slice (some ⟨g, off, none⟩) m c)) (ho : Own elS w v Q) (hlen : Q.length ≤ 1099511627776)
    (hm : 0 < m) (hs0 : w.cell? ⟨g, off + 2, none⟩ = some (.slice s0.p s0.row.length s0.c)) (hnb : v.ownBlock ≠ some bo) :
    Calls Tryz.prog 104 #[.agg #[.int .i64 lo, .int .i64 hi], .pointer (some ⟨bo, 0, none⟩), .pointer (some ⟨bt, 0, none⟩), .pointer (some ⟨bg, 0, none⟩)] w fun e w' => e = .returned (.tuple #[]) ∧ TellR w bo v (tellQ s0 Q lo hi T) w' := by
  have HBO := hide hbo
  have HO := hide ho
  have HLEN := hide hlen
  have HNB : Hid (¬ v.ownBlock = some bo) := hide hnb
  obtain ⟨PR, hPR⟩ : ∃ PR : World → Prop, PR = TellR w bo v (tellQ s0 Q lo hi T) := ⟨_, rfl⟩
  have HPR := hide hPR
  rw [← hPR]
  have FA := Fr.alloc w (.cells #[.int .i64 lo, .int .i64 hi] 24) (fun _ => False)
  obtain ⟨W1, hW1⟩ : ∃ W1, W1 = w.alloc (.cells #[.int .i64 lo, .int .i64 hi] 24) := ⟨_, rfl⟩
  obtain ⟨gb, hgb⟩ : ∃ gb, gb = w.heap.size := ⟨_, rfl⟩
  have HT := hide (show Two W1 gb (.int .i64 lo) (.int .i64 hi) by rw [hW1, hgb]; exact two_of (heap_alloc_new w _))
  rw [← hW1] at FA
  have HF1 := hide FA
  have HCELL0 : Hid (∀ U, Fr W1 U (fun _ => False) → U.cell? ⟨bo, 0, none⟩ = some v ∧ U.cell? ⟨bt, 0, none⟩ = some (.int .i64 T) ∧ U.cell? ⟨bg, 0, none⟩ = some (.slice (some ⟨g, off, none⟩) m c) ∧ U.cell? ⟨g, off + 2, none⟩ = some (.slice s0.p s0.row.length s0.c) ∧ U.cell? ⟨gb, 0, none⟩ = some (.int .i64 lo) ∧ U.cell? ⟨gb, 1, none⟩ = some (.int .i64 hi)) := hide (fun U hU => by
    have hU' := (FA.trans hU).mono (Y := fun _ => False) (by simp)
    refine ⟨(hbo.fr hU' (fun h => h)).1, (hbt.fr hU' (fun h => h)).1, (hbg.fr hU' (fun h => h)).1, ?_, (HT.out.fr hU (fun h => h)).1, (HT.out.fr hU (fun h => h)).2.1⟩
    have hb : g < w.heap.size := World.block_lt_of_cell? w _ hs0
    rw [World.cell?_of_block (w := w) (hU'.block g hb (fun h => h))]; exact hs0)
  have HW := hide hW1
  have HG := hide hgb
  clear hPR hbo hbt hbg ho hlen hs0 hnb FA hW1 hgb
  go_enter Tryz.func104, Tryz.ntmps104
  obtain ⟨c0, c1, c2, c3, c4, c5⟩ := HCELL0.out W1 (Fr.refl _ _)
  rw [HW.out] at c0 c1 c2 c3 c4 c5
  rw [HG.out] at c4 c5
  by_cases hQ : Q = []
  · have HQ := hide hQ
    have HRES : Hid (∀ v' V3, Own elS V3 v' (Q ++ [⟨s0.p, s0.c, s0.row, lo, hi, T⟩]) → Fr w V3 (fun q => v.ownBlock = some q) → Fresh w v v' → Bx1 V3 bo v → PR (V3.setCell ⟨bo, 0, none⟩ v')) := hide (fun v' V3 h1 h2 h3 h4 => by
      rw [HPR.out]
      have e : tellQ s0 Q lo hi T = Q ++ [⟨s0.p, s0.c, s0.row, lo, hi, T⟩] := by rw [HQ.out]; rfl
      rw [e]
      exact tell_fin h1 h2 h3 h4 HBO.out.lt HNB.out)
    obtain ⟨a, cq, hv, _⟩ := HO.out.shape
    obtain ⟨n, hn⟩ : ∃ n, n = Q.length := ⟨_, rfl⟩
    have hn0 : n = 0 := by rw [hn, hQ]; rfl
    rw [← hn, hn0] at hv
    subst hv
    clear hQ hn hn0
    go_wp2_with fail
    rw [← HW.out, ← HG.out]
    clear HW HG
    refine wp_region_K (fun _ => true) (fun U : World => U = W1.drew) (by kernel_rfl) ?_
    have D0 := Fr.drew W1 (fun _ => False)
    obtain ⟨d0, d1, d2, d3, d4, d5⟩ := HCELL0.out _ D0
    have HF2 := hide ((HF1.out.trans D0).mono (Y := fun _ => False) (by simp))
    have HCELL : Hid (∀ U, Fr W1.drew U (fun _ => False) → _) := hide (fun U hU => HCELL0.out U ((D0.trans hU).mono (by simp)))
    clear D0 c0 c1 c2 c3 c4 c5 HCELL0 HF1
    have HF1 := HF2
    clear HF2
    generalize W1.drew = W2 at *
    have hS : (fun U : World => U = W2) W2 := rfl
    refine wpAnyK_takeTo 0 (some 9) ((.int .i64 (-1))) [1, 2, 3, 4, 5, 6, 7, 8, 9, 10] rfl rfl (by kernel_rfl) (by kernel_rfl) (by kernel_rfl) (by kernel_rfl) (fun _ _ _ h => h) hS (Or.inl ⟨rfl, fun w1 hw1 => by cases hw1; go_simp⟩) ?_
    simp only [Act.put, List.setIfInBounds_toArray, List.set_cons_zero, List.set_cons_succ]
    refine wpAnyK_takeTo 1 (some 10) ((.bool false)) [2, 3, 4, 5, 6, 7, 8, 9, 10] rfl rfl (by kernel_rfl) (by kernel_rfl) (by kernel_rfl) (by kernel_rfl) (fun _ _ _ h => h) hS (Or.inl ⟨rfl, fun w1 hw1 => by cases hw1; go_simp⟩) ?_
    simp only [Act.put, List.setIfInBounds_toArray, List.set_cons_zero, List.set_cons_succ]
    refine wpAnyK_takeTo 2 (some 11) ((.bool false)) [3, 4, 5, 6, 7, 8, 9, 10] rfl rfl (by kernel_rfl) (by kernel_rfl) (by kernel_rfl) (by kernel_rfl) (fun _ _ _ h => h) hS (Or.inl ⟨rfl, fun w1 hw1 => by cases hw1; go_simp⟩) ?_
    simp only [Act.put, List.setIfInBounds_toArray, List.set_cons_zero, List.set_cons_succ]
    refine wpAnyK_takeTo 3 (some 12) (undef) [5, 6, 7, 9, 10] rfl rfl (by kernel_rfl) (by kernel_rfl) (by kernel_rfl) (by kernel_rfl) (fun _ _ _ h => h) hS (Or.inr ⟨rfl, rfl⟩) ?_
    simp only [Act.put, List.setIfInBounds_toArray, List.set_cons_zero, List.set_cons_succ]
    refine wpAnyK_takeTo 4 (some 13) (undef) [5, 6, 7, 9, 10] rfl rfl (by kernel_rfl) (by kernel_rfl) (by kernel_rfl) (by kernel_rfl) (fun _ _ _ h => h) hS (Or.inr ⟨rfl, rfl⟩) ?_
    simp only [Act.put, List.setIfInBounds_toArray, List.set_cons_zero, List.set_cons_succ]
    refine wpAnyK_takeTo 5 (some 14) (undef) [6, 7, 9, 10] rfl rfl (by kernel_rfl) (by kernel_rfl) (by kernel_rfl) (by kernel_rfl) (fun _ _ _ h => h) hS (Or.inr ⟨rfl, rfl⟩) ?_
    simp only [Act.put, List.setIfInBounds_toArray, List.set_cons_zero, List.set_cons_succ]
    refine wpAnyK_takeTo 6 (some 15) (undef) [7, 9, 10] rfl rfl (by kernel_rfl) (by kernel_rfl) (by kernel_rfl) (by kernel_rfl) (fun _ _ _ h => h) hS (Or.inr ⟨rfl, rfl⟩) ?_
    simp only [Act.put, List.setIfInBounds_toArray, List.set_cons_zero, List.set_cons_succ]
    refine wpAnyK_takeTo 7 (some 16) (undef) [9, 10] rfl rfl (by kernel_rfl) (by kernel_rfl) (by kernel_rfl) (by kernel_rfl) (fun _ _ _ h => h) hS (Or.inr ⟨rfl, rfl⟩) ?_
    simp only [Act.put, List.setIfInBounds_toArray, List.set_cons_zero, List.set_cons_succ]
    refine wpAnyK_takeTo 8 (some 17) (undef) [9, 10] rfl rfl (by kernel_rfl) (by kernel_rfl) (by kernel_rfl) (by kernel_rfl) (fun _ _ _ h => h) hS (Or.inr ⟨rfl, rfl⟩) ?_
    simp only [Act.put, List.setIfInBounds_toArray, List.set_cons_zero, List.set_cons_succ]
    refine wpAnyK_takeTo 9 (some 18) (undef) [10] rfl rfl (by kernel_rfl) (by kernel_rfl) (by kernel_rfl) (by kernel_rfl) (fun _ _ _ h => h) hS (Or.inr ⟨rfl, rfl⟩) ?_
    simp only [Act.put, List.setIfInBounds_toArray, List.set_cons_zero, List.set_cons_succ]
    refine wpAnyK_takeTo 10 (some 19) ((.bool false)) [] rfl rfl (by kernel_rfl) (by kernel_rfl) (by kernel_rfl) (by kernel_rfl) (fun _ _ _ h => h) hS (Or.inl ⟨rfl, fun w1 hw1 => by cases hw1; go_simp⟩) ?_
    simp only [Act.put, List.setIfInBounds_toArray, List.set_cons_zero, List.set_cons_succ]
    refine wpAnyK_done (by kernel_rfl) ?_ _
    clear d0 d1 d2 d3 d4 d5 hS
    go_wp2_with fail
    refine wp_region_K (fun z => decide (z < 9)) (fun U : World => Fr (W2.drew) U (fun _ => False)) (by kernel_rfl) ?_
    have hS : (fun U : World => Fr (W2.drew) U (fun _ => False)) W2.drew := Fr.refl _ _
    have D1 := Fr.drew W2 (fun _ => False)
    have HFV := hide ((HF1.out.trans D1).mono (Y := fun _ => False) (by simp))
    have HCS : Hid (∀ U, Fr W2.drew U (fun _ => False) → U.cell? ⟨bo, 0, none⟩ = some (.slice a 0 cq) ∧ U.cell? ⟨bt, 0, none⟩ = some (.int .i64 T) ∧ U.cell? ⟨bg, 0, none⟩ = some (.slice (some ⟨g, off, none⟩) m c) ∧ U.cell? ⟨g, off + 2, none⟩ = some (.slice s0.p s0.row.length s0.c) ∧ U.cell? ⟨gb, 0, none⟩ = some (.int .i64 lo) ∧ U.cell? ⟨gb, 1, none⟩ = some (.int .i64 hi)) := hide (fun U hU => HCELL.out U ((D1.trans hU).mono (by simp)))
    clear D1 HF1 HCELL HT
    generalize W2.drew = V at *
    refine wpAnyK_takeTo 0 (some 27) ((.slice a 0 cq)) [9, 10] rfl rfl (by kernel_rfl) (by kernel_rfl) (by kernel_rfl) (by kernel_rfl) (fun _ _ _ h => h) hS (Or.inl ⟨rfl, fun w1 hw1 => by obtain ⟨q0, q1, q2, q3, q4, q5⟩ := HCS.out _ hw1; go_simp⟩) ?_
    simp only [Act.put, List.setIfInBounds_toArray, List.set_cons_zero, List.set_cons_succ]
    refine wpAnyK_takeTo 1 (some 28) ((.agg #[.int .i64 lo, .int .i64 hi])) [7, 8, 9, 10] rfl rfl (by kernel_rfl) (by kernel_rfl) (by kernel_rfl) (by kernel_rfl) (fun _ _ _ h => h) hS (Or.inl ⟨rfl, fun w1 hw1 => by obtain ⟨q0, q1, q2, q3, q4, q5⟩ := HCS.out _ hw1; go_simp⟩) ?_
    simp only [Act.put, List.setIfInBounds_toArray, List.set_cons_zero, List.set_cons_succ]
    refine wpAnyK_takeTo 2 (some 29) ((.slice (some ⟨g, off, none⟩) m c)) [3, 4, 5, 7, 8, 9, 10] rfl rfl (by kernel_rfl) (by kernel_rfl) (by kernel_rfl) (by kernel_rfl) (fun _ _ _ h => h) hS (Or.inl ⟨rfl, fun w1 hw1 => by obtain ⟨q0, q1, q2, q3, q4, q5⟩ := HCS.out _ hw1; go_simp⟩) ?_
    simp only [Act.put, List.setIfInBounds_toArray, List.set_cons_zero, List.set_cons_succ]
    refine wpAnyK_takeTo 3 (some 30) ((.pointer (some ⟨g, off, none⟩))) [4, 5, 7, 8, 9, 10] rfl rfl (by kernel_rfl) (by kernel_rfl) (by kernel_rfl) (by kernel_rfl) (fun _ _ _ h => h) hS (Or.inl ⟨rfl, fun w1 hw1 => by obtain ⟨q0, q1, q2, q3, q4, q5⟩ := HCS.out _ hw1; go_simp⟩) ?_
    simp only [Act.put, List.setIfInBounds_toArray, List.set_cons_zero, List.set_cons_succ]
    refine wpAnyK_takeTo 4 (some 31) ((.pointer (some ⟨g, off + 2, none⟩))) [5, 7, 8, 9, 10] rfl rfl (by kernel_rfl) (by kernel_rfl) (by kernel_rfl) (by kernel_rfl) (fun _ _ _ h => h) hS (Or.inl ⟨rfl, fun w1 hw1 => by obtain ⟨q0, q1, q2, q3, q4, q5⟩ := HCS.out _ hw1; go_simp⟩) ?_
    simp only [Act.put, List.setIfInBounds_toArray, List.set_cons_zero, List.set_cons_succ]
    refine wpAnyK_takeTo 5 (some 32) ((.slice s0.p s0.row.length s0.c)) [7, 8, 9, 10] rfl rfl (by kernel_rfl) (by kernel_rfl) (by kernel_rfl) (by kernel_rfl) (fun _ _ _ h => h) hS (Or.inl ⟨rfl, fun w1 hw1 => by obtain ⟨q0, q1, q2, q3, q4, q5⟩ := HCS.out _ hw1; go_simp⟩) ?_
    simp only [Act.put, List.setIfInBounds_toArray, List.set_cons_zero, List.set_cons_succ]
    refine wpAnyK_takeTo 6 (some 33) ((.int .i64 T)) [7, 8, 9, 10] rfl rfl (by kernel_rfl) (by kernel_rfl) (by kernel_rfl) (by kernel_rfl) (fun _ _ _ h => h) hS (Or.inl ⟨rfl, fun w1 hw1 => by obtain ⟨q0, q1, q2, q3, q4, q5⟩ := HCS.out _ hw1; go_simp⟩) ?_
    simp only [Act.put, List.setIfInBounds_toArray, List.set_cons_zero, List.set_cons_succ]
    refine wpAnyK_takeTo 7 (some 34) ((.agg #[.int .i64 lo, .int .i64 hi, .slice s0.p s0.row.length s0.c, .int .i64 T])) [8, 9, 10] rfl rfl (by kernel_rfl) (by kernel_rfl) (by kernel_rfl) (by kernel_rfl) (fun _ _ _ h => h) hS (Or.inl ⟨rfl, fun w1 hw1 => by obtain ⟨q0, q1, q2, q3, q4, q5⟩ := HCS.out _ hw1; go_simp⟩) ?_
    simp only [Act.put, List.setIfInBounds_toArray, List.set_cons_zero, List.set_cons_succ]
    refine wpAnyK_one (i := 8) (by kernel_rfl) rfl rfl ?_
    go_simp
    refine ⟨Fr.alloc _ _ _, ?_⟩
    have FB := Fr.alloc V (.cells #[.int .i64 lo, .int .i64 hi, .slice s0.p s0.row.length s0.c, .int .i64 T] 79) (fun _ => False)
    have HRN := hide (Row.new elS V [⟨s0.p, s0.c, s0.row, lo, hi, T⟩] #[.int .i64 lo, .int .i64 hi, .slice s0.p s0.row.length s0.c, .int .i64 T] rfl)
    have HOV := hide ((HO.out.fr HFV.out (fun _ _ h => h)).fr FB (fun _ _ h => h))
    have HFB := hide ((HFV.out.trans FB).mono (Y := fun _ => False) (by simp))
    have HZB := hide (show w.heap.size ≤ (V.alloc (.cells #[.int .i64 lo, .int .i64 hi, .slice s0.p s0.row.length s0.c, .int .i64 T] 79)).heap.size from HFB.out.size)
    clear FB HCS hS
    obtain ⟨gn, hgn⟩ : ∃ gn, gn = V.heap.size := ⟨_, rfl⟩
    obtain ⟨V2, hV2⟩ : ∃ V2, V2 = V.alloc (.cells #[.int .i64 lo, .int .i64 hi, .slice s0.p s0.row.length s0.c, .int .i64 T] 79) := ⟨_, rfl⟩
    have hgn' : elS.ty = 79 := rfl
    rw [hgn'] at HRN
    rw [← hV2, ← hgn] at HRN
    rw [← hV2] at HOV HFB HZB
    rw [← hV2, ← hgn]
    clear hgn hV2 HFV hgn'
    refine wpAnyK_one (i := 9) (by kernel_rfl) rfl rfl ?_
    refine wp_cat elS (.tmp 27) (.tmp 35) rfl (some 36) rfl (.slice a 0 cq) Q rfl HOV.out (some ⟨gn, 0, none⟩) 1 1 [⟨s0.p, s0.c, s0.row, lo, hi, T⟩] rfl rfl HRN.out (by simp) (by have := HLEN.out; omega) ?_
    intro v' V3 ho hf hr
    refine ⟨fun h => absurd h (by decide), ?_⟩
    simp only [Act.put, List.setIfInBounds_toArray, List.set_cons_zero, List.set_cons_succ]
    have HO3 := hide ho
    have HF3 := hide ((HFB.out.trans hf).mono (Y := fun q => Value.ownBlock (.slice a 0 cq) = some q) (by rintro q _ (h | h); exact h.elim; exact h))
    have HR3 := hide (show Fresh w (.slice a 0 cq) v' by rcases hr with h | ⟨q, h1, h2⟩; exact .inl h; exact .inr ⟨q, h1, Nat.le_trans HZB.out h2⟩)
    clear ho hf hr HOV HRN HFB HZB
    have B3 := HBO.out.fr HF3.out HNB.out
    have z0 := B3.1
    have z1 := B3.2
    have HB3 := hide B3
    clear B3
    obtain ⟨a3, c3, hv3, _⟩ := HO3.out.shape
    subst hv3
    refine wpAnyK_one (i := 10) (by kernel_rfl) rfl rfl ?_
    go_simp
    refine wpAnyK_done (by kernel_rfl) ?_ _
    go_wp2
    go_end0
    exact ⟨rfl, by have := HRES.out _ V3 HO3.out HF3.out HR3.out HB3.out; simpa using this⟩
  · obtain ⟨Q', q, hQq⟩ : ∃ Q' q, Q = Q' ++ [q] := ⟨Q.dropLast, Q.getLast hQ, (List.dropLast_concat_getLast hQ).symm⟩
    have HQ := hide hQq
    obtain ⟨a, cq, hv, hcq, hnil, hmx, hsh⟩ := HO.out.shape
    obtain ⟨n, hn⟩ : ∃ n, n = Q.length := ⟨_, rfl⟩
    have hnq : n = Q'.length + 1 := by rw [hn, hQq]; simp
    have hlast : Q[n - 1]? = some q := by rw [hQq, hnq]; simp
    rw [← hn] at hv hcq
    have HN := hide hn
    have HNQ := hide hnq
    have HLST := hide hlast
    obtain ⟨gq, hgq⟩ : ∃ gq, a = some ⟨gq, 0, none⟩ := by
      subst hv
      obtain ⟨g1, o1, e1, _⟩ := HO.out.row.block hlast
      obtain ⟨g2, e2⟩ := hsh _ e1
      exact ⟨g2, by rw [e1, e2]⟩
    subst hgq hv
    clear hQ hn hQq hsh hnil hlast
    have hn1 : 1 ≤ n := by omega
    have hnb2 : n ≤ 1099511627776 := by rw [HN.out]; exact HLEN.out
    clear hnq
    go_wp2_with fail
    rw [← HW.out, ← HG.out]
    clear HW HG
    refine wp_region_K (fun _ => true) (fun U : World => U = W1.drew) (by kernel_rfl) ?_
    have D0 := Fr.drew W1 (fun _ => False)
    obtain ⟨d0, d1, d2, d3, d4, d5⟩ := HCELL0.out _ D0
    have HF2 := hide ((HF1.out.trans D0).mono (Y := fun _ => False) (by simp))
    have HT2 := hide (HT.out.fr D0 (fun h => h))
    have HCELL : Hid (∀ U, Fr W1.drew U (fun _ => False) → _) := hide (fun U hU => HCELL0.out U ((D0.trans hU).mono (by simp)))
    clear D0 c0 c1 c2 c3 c4 c5 HCELL0 HF1 HT
    have HF1 := HF2
    have HT := HT2
    clear HF2 HT2
    generalize W1.drew = W2 at *
    have HOW := hide (HO.out.fr HF1.out (fun _ _ h => h))
    obtain ⟨g', off', e', _, e0, e1, e2, e3⟩ := rowS_at HOW.out.row HLST.out
    injection e' with e'
    injection e' with e1' e2'
    subst e1' e2'
    rw [Nat.zero_add] at e0 e1 e2 e3
    have hS : (fun U : World => U = W2) W2 := rfl
    have hw1 : wrap64 ((n : Int) - 1) = (n : Int) - 1 := by unfold wrap64; omega
    have hn1z : (1 : Int) ≤ (n : Int) := by omega
    have hge : (0 : Int) ≤ (n : Int) - 1 := by omega
    have htn : ((n : Int) - 1).toNat = n - 1 := by omega
    have hlt : (n : Int) - 1 < (n : Int) := by omega
    obtain ⟨ql, qh, qn, hq1, hq2, hq3⟩ : ∃ ql qh qn, q.lo = ql ∧ q.hi = qh ∧ q.n = qn := ⟨_, _, _, rfl, rfl, rfl⟩
    rw [hq3] at e3
    have HQ3 := hide hq3
    clear hq1 hq2 hq3
    by_cases hT : qn = T
    · subst hT
      refine wpAnyK_takeTo 0 (some 9) ((.int .i64 (((n : Int) - 1)))) [1, 2, 3, 4, 5, 6, 7, 8, 9, 10] rfl rfl (by kernel_rfl) (by kernel_rfl) (by kernel_rfl) (by kernel_rfl) (fun _ _ _ h => h) hS (Or.inl ⟨rfl, fun w1 hw1 => by cases hw1; go_simp⟩) ?_
      simp only [Act.put, List.setIfInBounds_toArray, List.set_cons_zero, List.set_cons_succ]
      refine wpAnyK_takeTo 1 (some 10) ((.bool true)) [2, 3, 4, 5, 6, 7, 8, 9, 10] rfl rfl (by kernel_rfl) (by kernel_rfl) (by kernel_rfl) (by kernel_rfl) (fun _ _ _ h => h) hS (Or.inl ⟨rfl, fun w1 hw1 => by cases hw1; go_simp⟩) ?_
      simp only [Act.put, List.setIfInBounds_toArray, List.set_cons_zero, List.set_cons_succ]
      refine wpAnyK_takeTo 2 (some 11) ((.bool true)) [3, 4, 5, 6, 7, 8, 9, 10] rfl rfl (by kernel_rfl) (by kernel_rfl) (by kernel_rfl) (by kernel_rfl) (fun _ _ _ h => h) hS (Or.inl ⟨rfl, fun w1 hw1 => by cases hw1; go_simp⟩) ?_
      simp only [Act.put, List.setIfInBounds_toArray, List.set_cons_zero, List.set_cons_succ]
      refine wpAnyK_takeTo 3 (some 12) ((.slice (some ⟨gq, 0, none⟩) n cq)) [5, 6, 7, 9, 10] rfl rfl (by kernel_rfl) (by kernel_rfl) (by kernel_rfl) (by kernel_rfl) (fun _ _ _ h => h) hS (Or.inl ⟨rfl, fun w1 hw1 => by cases hw1; go_simp⟩) ?_
      simp only [Act.put, List.setIfInBounds_toArray, List.set_cons_zero, List.set_cons_succ]
      refine wpAnyK_takeTo 4 (some 13) ((.int .i64 (((n : Int) - 1)))) [5, 6, 7, 9, 10] rfl rfl (by kernel_rfl) (by kernel_rfl) (by kernel_rfl) (by kernel_rfl) (fun _ _ _ h => h) hS (Or.inl ⟨rfl, fun w1 hw1 => by cases hw1; go_simp⟩) ?_
      simp only [Act.put, List.setIfInBounds_toArray, List.set_cons_zero, List.set_cons_succ]
      refine wpAnyK_takeTo 5 (some 14) ((.pointer (some ⟨gq, (n - 1) * 4, none⟩))) [6, 7, 9, 10] rfl rfl (by kernel_rfl) (by kernel_rfl) (by kernel_rfl) (by kernel_rfl) (fun _ _ _ h => h) hS (Or.inl ⟨rfl, fun w1 hw1 => by cases hw1; go_simp⟩) ?_
      simp only [Act.put, List.setIfInBounds_toArray, List.set_cons_zero, List.set_cons_succ]
      refine wpAnyK_takeTo 6 (some 15) ((.pointer (some ⟨gq, (n - 1) * 4 + 3, none⟩))) [7, 9, 10] rfl rfl (by kernel_rfl) (by kernel_rfl) (by kernel_rfl) (by kernel_rfl) (fun _ _ _ h => h) hS (Or.inl ⟨rfl, fun w1 hw1 => by cases hw1; go_simp⟩) ?_
      simp only [Act.put, List.setIfInBounds_toArray, List.set_cons_zero, List.set_cons_succ]
      refine wpAnyK_takeTo 7 (some 16) ((.int .i64 qn)) [9, 10] rfl rfl (by kernel_rfl) (by kernel_rfl) (by kernel_rfl) (by kernel_rfl) (fun _ _ _ h => h) hS (Or.inl ⟨rfl, fun w1 hw1 => by cases hw1; go_simp⟩) ?_
      simp only [Act.put, List.setIfInBounds_toArray, List.set_cons_zero, List.set_cons_succ]
      refine wpAnyK_takeTo 8 (some 17) ((.int .i64 qn)) [9, 10] rfl rfl (by kernel_rfl) (by kernel_rfl) (by kernel_rfl) (by kernel_rfl) (fun _ _ _ h => h) hS (Or.inl ⟨rfl, fun w1 hw1 => by cases hw1; go_simp⟩) ?_
      simp only [Act.put, List.setIfInBounds_toArray, List.set_cons_zero, List.set_cons_succ]
      refine wpAnyK_takeTo 9 (some 18) ((.bool true)) [10] rfl rfl (by kernel_rfl) (by kernel_rfl) (by kernel_rfl) (by kernel_rfl) (fun _ _ _ h => h) hS (Or.inl ⟨rfl, fun w1 hw1 => by cases hw1; go_simp⟩) ?_
      simp only [Act.put, List.setIfInBounds_toArray, List.set_cons_zero, List.set_cons_succ]
      refine wpAnyK_takeTo 10 (some 19) ((.bool true)) [] rfl rfl (by kernel_rfl) (by kernel_rfl) (by kernel_rfl) (by kernel_rfl) (fun _ _ _ h => h) hS (Or.inl ⟨rfl, fun w1 hw1 => by cases hw1; go_simp⟩) ?_
      simp only [Act.put, List.setIfInBounds_toArray, List.set_cons_zero, List.set_cons_succ]
      refine wpAnyK_done (by kernel_rfl) ?_ _
      have z0 : W2.frozen? ⟨gq, (n - 1) * 4 + 1, none⟩ = false := by
        rcases HOW.out.2 with ⟨h1, _⟩ | ⟨g2, cap, cur, hv, _, hg, _⟩
        · cases h1
        · simp only [Value.slice.injEq, Option.some.injEq, Addr.mk.injEq, and_true] at hv
          obtain ⟨rfl, _, _⟩ := hv
          simp [World.frozen?, hg]
      clear d1 d2 d3 hS
      go_wp2
      refine bodyPost_ret (results_none rfl _ _ _) rfl ?_
      refine ⟨rfl, ?_⟩
      rw [HPR.out]
      have e : tellQ s0 Q lo hi qn = Q.set (n - 1) ⟨q.p, q.c, q.row, q.lo, hi, q.n⟩ := by
        unfold tellQ
        rw [HQ.out, List.getLast?_append, HNQ.out]
        simp [HQ3.out]
      rw [e]
      have P := HOW.out.put (j := n - 1) (p := q) (q := ⟨q.p, q.c, q.row, q.lo, hi, q.n⟩) (i := 1) (u := .int .i64 hi) HLST.out rfl (by decide)
      refine ⟨_, P, ?_, ?_, .inl rfl⟩
      · exact (HBO.out.fr HF1.out (fun h => h)).fr (Fr.setCell W2 _ _) (fun h => HNB.out (by simp only at h; rw [h]; rfl))
      · refine (HF1.out.trans (Fr.setCell W2 _ _)).mono ?_
        rintro k _ (h | h)
        · exact h.elim
        · exact .inr (by simp only at h; rw [h]; rfl)
    · have HTN := hide hT
      have HRES : Hid (∀ v' V3, Own elS V3 v' (Q ++ [⟨s0.p, s0.c, s0.row, lo, hi, T⟩]) → Fr w V3 (fun q => (Value.slice (some ⟨gq, 0, none⟩) n cq).ownBlock = some q) → Fresh w (.slice (some ⟨gq, 0, none⟩) n cq) v' → Bx1 V3 bo (.slice (some ⟨gq, 0, none⟩) n cq) → PR (V3.setCell ⟨bo, 0, none⟩ v')) := hide (fun v' V3 h1 h2 h3 h4 => by
        rw [HPR.out]
        have e : tellQ s0 Q lo hi T = Q ++ [⟨s0.p, s0.c, s0.row, lo, hi, T⟩] := by
          unfold tellQ
          rw [HQ.out, List.getLast?_append]
          simp only [List.getLast?_singleton, Option.some_or]
          rw [if_neg (by rw [HQ3.out]; exact HTN.out)]
        rw [e]
        exact tell_fin h1 h2 h3 h4 HBO.out.lt HNB.out)
      refine wpAnyK_takeTo 0 (some 9) ((.int .i64 (((n : Int) - 1)))) [1, 2, 3, 4, 5, 6, 7, 8, 9, 10] rfl rfl (by kernel_rfl) (by kernel_rfl) (by kernel_rfl) (by kernel_rfl) (fun _ _ _ h => h) hS (Or.inl ⟨rfl, fun w1 hw1 => by cases hw1; go_simp⟩) ?_
      simp only [Act.put, List.setIfInBounds_toArray, List.set_cons_zero, List.set_cons_succ]
      refine wpAnyK_takeTo 1 (some 10) ((.bool true)) [2, 3, 4, 5, 6, 7, 8, 9, 10] rfl rfl (by kernel_rfl) (by kernel_rfl) (by kernel_rfl) (by kernel_rfl) (fun _ _ _ h => h) hS (Or.inl ⟨rfl, fun w1 hw1 => by cases hw1; go_simp⟩) ?_
      simp only [Act.put, List.setIfInBounds_toArray, List.set_cons_zero, List.set_cons_succ]
      refine wpAnyK_takeTo 2 (some 11) ((.bool true)) [3, 4, 5, 6, 7, 8, 9, 10] rfl rfl (by kernel_rfl) (by kernel_rfl) (by kernel_rfl) (by kernel_rfl) (fun _ _ _ h => h) hS (Or.inl ⟨rfl, fun w1 hw1 => by cases hw1; go_simp⟩) ?_
      simp only [Act.put, List.setIfInBounds_toArray, List.set_cons_zero, List.set_cons_succ]
      refine wpAnyK_takeTo 3 (some 12) ((.slice (some ⟨gq, 0, none⟩) n cq)) [5, 6, 7, 9, 10] rfl rfl (by kernel_rfl) (by kernel_rfl) (by kernel_rfl) (by kernel_rfl) (fun _ _ _ h => h) hS (Or.inl ⟨rfl, fun w1 hw1 => by cases hw1; go_simp⟩) ?_
      simp only [Act.put, List.setIfInBounds_toArray, List.set_cons_zero, List.set_cons_succ]
      refine wpAnyK_takeTo 4 (some 13) ((.int .i64 (((n : Int) - 1)))) [5, 6, 7, 9, 10] rfl rfl (by kernel_rfl) (by kernel_rfl) (by kernel_rfl) (by kernel_rfl) (fun _ _ _ h => h) hS (Or.inl ⟨rfl, fun w1 hw1 => by cases hw1; go_simp⟩) ?_
      simp only [Act.put, List.setIfInBounds_toArray, List.set_cons_zero, List.set_cons_succ]
      refine wpAnyK_takeTo 5 (some 14) ((.pointer (some ⟨gq, (n - 1) * 4, none⟩))) [6, 7, 9, 10] rfl rfl (by kernel_rfl) (by kernel_rfl) (by kernel_rfl) (by kernel_rfl) (fun _ _ _ h => h) hS (Or.inl ⟨rfl, fun w1 hw1 => by cases hw1; go_simp⟩) ?_
      simp only [Act.put, List.setIfInBounds_toArray, List.set_cons_zero, List.set_cons_succ]
      refine wpAnyK_takeTo 6 (some 15) ((.pointer (some ⟨gq, (n - 1) * 4 + 3, none⟩))) [7, 9, 10] rfl rfl (by kernel_rfl) (by kernel_rfl) (by kernel_rfl) (by kernel_rfl) (fun _ _ _ h => h) hS (Or.inl ⟨rfl, fun w1 hw1 => by cases hw1; go_simp⟩) ?_
      simp only [Act.put, List.setIfInBounds_toArray, List.set_cons_zero, List.set_cons_succ]
      refine wpAnyK_takeTo 7 (some 16) ((.int .i64 qn)) [9, 10] rfl rfl (by kernel_rfl) (by kernel_rfl) (by kernel_rfl) (by kernel_rfl) (fun _ _ _ h => h) hS (Or.inl ⟨rfl, fun w1 hw1 => by cases hw1; go_simp⟩) ?_
      simp only [Act.put, List.setIfInBounds_toArray, List.set_cons_zero, List.set_cons_succ]
      refine wpAnyK_takeTo 8 (some 17) ((.int .i64 T)) [9, 10] rfl rfl (by kernel_rfl) (by kernel_rfl) (by kernel_rfl) (by kernel_rfl) (fun _ _ _ h => h) hS (Or.inl ⟨rfl, fun w1 hw1 => by cases hw1; go_simp⟩) ?_
      simp only [Act.put, List.setIfInBounds_toArray, List.set_cons_zero, List.set_cons_succ]
      refine wpAnyK_takeTo 9 (some 18) ((.bool false)) [10] rfl rfl (by kernel_rfl) (by kernel_rfl) (by kernel_rfl) (by kernel_rfl) (fun _ _ _ h => h) hS (Or.inl ⟨rfl, fun w1 hw1 => by cases hw1; go_simp⟩) ?_
      simp only [Act.put, List.setIfInBounds_toArray, List.set_cons_zero, List.set_cons_succ]
      refine wpAnyK_takeTo 10 (some 19) ((.bool false)) [] rfl rfl (by kernel_rfl) (by kernel_rfl) (by kernel_rfl) (by kernel_rfl) (fun _ _ _ h => h) hS (Or.inl ⟨rfl, fun w1 hw1 => by cases hw1; go_simp⟩) ?_
      simp only [Act.put, List.setIfInBounds_toArray, List.set_cons_zero, List.set_cons_succ]
      refine wpAnyK_done (by kernel_rfl) ?_ _
      clear d0 d1 d2 d3 d4 d5 hS e0 e1 e2 e3
      go_wp2_with fail
      refine wp_region_K (fun z => decide (z < 9)) (fun U : World => Fr (W2.drew) U (fun _ => False)) (by kernel_rfl) ?_
      have hS : (fun U : World => Fr (W2.drew) U (fun _ => False)) W2.drew := Fr.refl _ _
      have D1 := Fr.drew W2 (fun _ => False)
      have HFV := hide ((HF1.out.trans D1).mono (Y := fun _ => False) (by simp))
      have HCS : Hid (∀ U, Fr W2.drew U (fun _ => False) → U.cell? ⟨bo, 0, none⟩ = some (.slice (some ⟨gq, 0, none⟩) n cq) ∧ U.cell? ⟨bt, 0, none⟩ = some (.int .i64 T) ∧ U.cell? ⟨bg, 0, none⟩ = some (.slice (some ⟨g, off, none⟩) m c) ∧ U.cell? ⟨g, off + 2, none⟩ = some (.slice s0.p s0.row.length s0.c) ∧ U.cell? ⟨gb, 0, none⟩ = some (.int .i64 lo) ∧ U.cell? ⟨gb, 1, none⟩ = some (.int .i64 hi)) := hide (fun U hU => HCELL.out U ((D1.trans hU).mono (by simp)))
      clear D1 HF1 HCELL HT
      generalize W2.drew = V at *
      refine wpAnyK_takeTo 0 (some 27) ((.slice (some ⟨gq, 0, none⟩) n cq)) [9, 10] rfl rfl (by kernel_rfl) (by kernel_rfl) (by kernel_rfl) (by kernel_rfl) (fun _ _ _ h => h) hS (Or.inl ⟨rfl, fun w1 hw1 => by obtain ⟨q0, q1, q2, q3, q4, q5⟩ := HCS.out _ hw1; go_simp⟩) ?_
      simp only [Act.put, List.setIfInBounds_toArray, List.set_cons_zero, List.set_cons_succ]
      refine wpAnyK_takeTo 1 (some 28) ((.agg #[.int .i64 lo, .int .i64 hi])) [7, 8, 9, 10] rfl rfl (by kernel_rfl) (by kernel_rfl) (by kernel_rfl) (by kernel_rfl) (fun _ _ _ h => h) hS (Or.inl ⟨rfl, fun w1 hw1 => by obtain ⟨q0, q1, q2, q3, q4, q5⟩ := HCS.out _ hw1; go_simp⟩) ?_
      simp only [Act.put, List.setIfInBounds_toArray, List.set_cons_zero, List.set_cons_succ]
      refine wpAnyK_takeTo 2 (some 29) ((.slice (some ⟨g, off, none⟩) m c)) [3, 4, 5, 7, 8, 9, 10] rfl rfl (by kernel_rfl) (by kernel_rfl) (by kernel_rfl) (by kernel_rfl) (fun _ _ _ h => h) hS (Or.inl ⟨rfl, fun w1 hw1 => by obtain ⟨q0, q1, q2, q3, q4, q5⟩ := HCS.out _ hw1; go_simp⟩) ?_
      simp only [Act.put, List.setIfInBounds_toArray, List.set_cons_zero, List.set_cons_succ]
      refine wpAnyK_takeTo 3 (some 30) ((.pointer (some ⟨g, off, none⟩))) [4, 5, 7, 8, 9, 10] rfl rfl (by kernel_rfl) (by kernel_rfl) (by kernel_rfl) (by kernel_rfl) (fun _ _ _ h => h) hS (Or.inl ⟨rfl, fun w1 hw1 => by obtain ⟨q0, q1, q2, q3, q4, q5⟩ := HCS.out _ hw1; go_simp⟩) ?_
      simp only [Act.put, List.setIfInBounds_toArray, List.set_cons_zero, List.set_cons_succ]
      refine wpAnyK_takeTo 4 (some 31) ((.pointer (some ⟨g, off + 2, none⟩))) [5, 7, 8, 9, 10] rfl rfl (by kernel_rfl) (by kernel_rfl) (by kernel_rfl) (by kernel_rfl) (fun _ _ _ h => h) hS (Or.inl ⟨rfl, fun w1 hw1 => by obtain ⟨q0, q1, q2, q3, q4, q5⟩ := HCS.out _ hw1; go_simp⟩) ?_
      simp only [Act.put, List.setIfInBounds_toArray, List.set_cons_zero, List.set_cons_succ]
      refine wpAnyK_takeTo 5 (some 32) ((.slice s0.p s0.row.length s0.c)) [7, 8, 9, 10] rfl rfl (by kernel_rfl) (by kernel_rfl) (by kernel_rfl) (by kernel_rfl) (fun _ _ _ h => h) hS (Or.inl ⟨rfl, fun w1 hw1 => by obtain ⟨q0, q1, q2, q3, q4, q5⟩ := HCS.out _ hw1; go_simp⟩) ?_
      simp only [Act.put, List.setIfInBounds_toArray, List.set_cons_zero, List.set_cons_succ]
      refine wpAnyK_takeTo 6 (some 33) ((.int .i64 T)) [7, 8, 9, 10] rfl rfl (by kernel_rfl) (by kernel_rfl) (by kernel_rfl) (by kernel_rfl) (fun _ _ _ h => h) hS (Or.inl ⟨rfl, fun w1 hw1 => by obtain ⟨q0, q1, q2, q3, q4, q5⟩ := HCS.out _ hw1; go_simp⟩) ?_
      simp only [Act.put, List.setIfInBounds_toArray, List.set_cons_zero, List.set_cons_succ]
      refine wpAnyK_takeTo 7 (some 34) ((.agg #[.int .i64 lo, .int .i64 hi, .slice s0.p s0.row.length s0.c, .int .i64 T])) [8, 9, 10] rfl rfl (by kernel_rfl) (by kernel_rfl) (by kernel_rfl) (by kernel_rfl) (fun _ _ _ h => h) hS (Or.inl ⟨rfl, fun w1 hw1 => by obtain ⟨q0, q1, q2, q3, q4, q5⟩ := HCS.out _ hw1; go_simp⟩) ?_
      simp only [Act.put, List.setIfInBounds_toArray, List.set_cons_zero, List.set_cons_succ]
      refine wpAnyK_one (i := 8) (by kernel_rfl) rfl rfl ?_
      go_simp
      refine ⟨Fr.alloc _ _ _, ?_⟩
      have FB := Fr.alloc V (.cells #[.int .i64 lo, .int .i64 hi, .slice s0.p s0.row.length s0.c, .int .i64 T] 79) (fun _ => False)
      have HRN := hide (Row.new elS V [⟨s0.p, s0.c, s0.row, lo, hi, T⟩] #[.int .i64 lo, .int .i64 hi, .slice s0.p s0.row.length s0.c, .int .i64 T] rfl)
      have HOV := hide ((HO.out.fr HFV.out (fun _ _ h => h)).fr FB (fun _ _ h => h))
      have HFB := hide ((HFV.out.trans FB).mono (Y := fun _ => False) (by simp))
      have HZB := hide (show w.heap.size ≤ (V.alloc (.cells #[.int .i64 lo, .int .i64 hi, .slice s0.p s0.row.length s0.c, .int .i64 T] 79)).heap.size from HFB.out.size)
      clear FB HCS hS
      obtain ⟨gn, hgn⟩ : ∃ gn, gn = V.heap.size := ⟨_, rfl⟩
      obtain ⟨V2, hV2⟩ : ∃ V2, V2 = V.alloc (.cells #[.int .i64 lo, .int .i64 hi, .slice s0.p s0.row.length s0.c, .int .i64 T] 79) := ⟨_, rfl⟩
      have hgn' : elS.ty = 79 := rfl
      rw [hgn'] at HRN
      rw [← hV2, ← hgn] at HRN
      rw [← hV2] at HOV HFB HZB
      rw [← hV2, ← hgn]
      clear hgn hV2 HFV hgn'
      refine wpAnyK_one (i := 9) (by kernel_rfl) rfl rfl ?_
      refine wp_cat elS (.tmp 27) (.tmp 35) rfl (some 36) rfl (.slice (some ⟨gq, 0, none⟩) n cq) Q rfl HOV.out (some ⟨gn, 0, none⟩) 1 1 [⟨s0.p, s0.c, s0.row, lo, hi, T⟩] rfl rfl HRN.out (by simp) (by have := HLEN.out; omega) ?_
      intro v' V3 ho hf hr
      refine ⟨fun h => absurd h (by decide), ?_⟩
      simp only [Act.put, List.setIfInBounds_toArray, List.set_cons_zero, List.set_cons_succ]
      have HO3 := hide ho
      have HF3 := hide ((HFB.out.trans hf).mono (Y := fun q => Value.ownBlock (.slice (some ⟨gq, 0, none⟩) n cq) = some q) (by rintro q _ (h | h); exact h.elim; exact h))
      have HR3 := hide (show Fresh w (.slice (some ⟨gq, 0, none⟩) n cq) v' by rcases hr with h | ⟨q, h1, h2⟩; exact .inl h; exact .inr ⟨q, h1, Nat.le_trans HZB.out h2⟩)
      clear ho hf hr HOV HRN HFB HZB
      have B3 := HBO.out.fr HF3.out HNB.out
      have z0 := B3.1
      have z1 := B3.2
      have HB3 := hide B3
      clear B3
      obtain ⟨a3, c3, hv3, _⟩ := HO3.out.shape
      subst hv3
      refine wpAnyK_one (i := 10) (by kernel_rfl) rfl rfl ?_
      go_simp
      refine wpAnyK_done (by kernel_rfl) ?_ _
      go_wp2
      go_end0
      exact ⟨rfl, by have := HRES.out _ V3 HO3.out HF3.out HR3.out HB3.out; simpa using this⟩

end Go.Proofs.YtlapifncplbcnaaGreat
