/- The document's Same: like facts. -/
import Derived.Test.YtlapifncplbcnaaGreatMn
namespace Go.Proofs.YtlapifncplbcnaaGreat
open Go.RowKit
set_option maxRecDepth 100000
set_option linter.unusedVariables false
set_option linter.unusedSimpArgs false

theorem fa_take {X Y : List Ft} {k : Nat} {f h : Ft} (hx : X[k]? = some f) (hy : Y[k]? = some h) (he : (X.take k).map Ft.fa = (Y.take k).map Ft.fa) (hf : f.fa = h.fa) : (X.take (k + 1)).map Ft.fa = (Y.take (k + 1)).map Ft.fa := by
  rw [take_snoc hx, take_snoc hy, List.map_append, List.map_append, he]
  simp [hf]
theorem fa_differ {X Y : List Ft} {k : Nat} {f h : Ft} (hx : X[k]? = some f) (hy : Y[k]? = some h) (hf : f.fa ≠ h.fa) : decide (X.map Ft.fa = Y.map Ft.fa) = false := by
  rw [decide_eq_false_iff_not]
  intro e
  apply hf
  have h1 : (X.map Ft.fa)[k]? = some f.fa := by rw [List.getElem?_map, hx]; rfl
  have h2 : (Y.map Ft.fa)[k]? = some h.fa := by rw [List.getElem?_map, hy]; rfl
  rw [e, h2] at h1
  exact (Option.some.inj h1).symm
set_option maxHeartbeats 8000000 in
theorem same_any {w : World} {x y : Ls} (hx : FIn w x) (hy : FIn w y) (hl : x.L.length ≤ 1099511627776) :
    Calls Tryz.prog 15 #[.slice x.p x.L.length x.c, .slice y.p y.L.length y.c] w fun e w' => e = .returned (.bool (decide (x.L.map Ft.fa = y.L.map Ft.fa))) ∧ Fr w w' (fun _ => False) := by
  obtain ⟨p1, c1, X⟩ := x
  obtain ⟨p2, c2, Y⟩ := y
  simp only at hl ⊢
  have HX := hide hx
  have HY := hide hy
  obtain ⟨m, hm⟩ : ∃ m, m = X.length := ⟨_, rfl⟩
  obtain ⟨m2, hm2⟩ : ∃ m2, m2 = Y.length := ⟨_, rfl⟩
  rw [← hm] at hl
  rw [← hm, ← hm2]
  have HM := hide hm
  have HM2 := hide hm2
  clear hx hy hm hm2
  by_cases hmm : m = m2
  · subst hmm
    go_enter Tryz.func15, Tryz.ntmps15
    go_wp2_with fail
    go_loopw [5] (fun i wr => ∃ k : Nat, k ≤ m ∧ i = .int .i64 (k : Int) ∧ (X.take k).map Ft.fa = (Y.take k).map Ft.fa ∧ Fr w wr (fun _ => False)) (fun i _ => m - (intOf i).toNat)
    case atStart => exact ⟨0, by omega, rfl, by simp, Fr.refl _ _⟩
    case round =>
      rename World => W
      obtain ⟨k, hk, rfl, he, hf⟩ := hrel
      have HE := hide he
      have HF := hide hf
      clear he hf
      by_cases hlt : k < m
      · obtain ⟨f, hf⟩ : ∃ f, X[k]? = some f := ⟨_, List.getElem?_eq_getElem (by rw [← HM.out]; exact hlt)⟩
        obtain ⟨h, hh⟩ : ∃ h, Y[k]? = some h := ⟨_, List.getElem?_eq_getElem (by rw [← HM2.out]; exact hlt)⟩
        have HFX := hide hf
        have HHY := hide hh
        have FD : Fr w W.drew (fun _ => False) := (HF.out.trans (Fr.drew W (fun _ => False))).mono (by simp)
        obtain ⟨g1, o1, rfl, _, p0, p1, p2⟩ := rowF_at (HX.out.row.fr FD (fun _ _ _ _ h => h)) hf
        obtain ⟨g2, o2, rfl, _, r0, r1, r2⟩ := rowF_at (HY.out.row.fr FD (fun _ _ _ _ h => h)) hh
        have HFD := hide FD
        have HOX := hide ((HX.out.fr FD).ok f (List.mem_of_getElem? hf))
        have HOY := hide ((HY.out.fr FD).ok h (List.mem_of_getElem? hh))
        have hS : (fun V : World => (V.cell? ⟨g1, o1 + k * 3, none⟩ = some (.slice f.p f.row.length f.c) ∧ V.cell? ⟨g1, o1 + k * 3 + 1, none⟩ = some (.int .i64 f.lo) ∧ V.cell? ⟨g1, o1 + k * 3 + 2, none⟩ = some (.int .i64 f.hi)) ∧ (V.cell? ⟨g2, o2 + k * 3, none⟩ = some (.slice h.p h.row.length h.c) ∧ V.cell? ⟨g2, o2 + k * 3 + 1, none⟩ = some (.int .i64 h.lo) ∧ V.cell? ⟨g2, o2 + k * 3 + 2, none⟩ = some (.int .i64 h.hi))) W.drew := And.intro ⟨p0, p1, p2⟩ ⟨r0, r1, r2⟩
        clear hf hh FD p0 p1 p2 r0 r1 r2
        go_wp2_with fail
        refine wp_region_K (fun _ => true) (fun V : World => (V.cell? ⟨g1, o1 + k * 3, none⟩ = some (.slice f.p f.row.length f.c) ∧ V.cell? ⟨g1, o1 + k * 3 + 1, none⟩ = some (.int .i64 f.lo) ∧ V.cell? ⟨g1, o1 + k * 3 + 2, none⟩ = some (.int .i64 f.hi)) ∧ (V.cell? ⟨g2, o2 + k * 3, none⟩ = some (.slice h.p h.row.length h.c) ∧ V.cell? ⟨g2, o2 + k * 3 + 1, none⟩ = some (.int .i64 h.lo) ∧ V.cell? ⟨g2, o2 + k * 3 + 2, none⟩ = some (.int .i64 h.hi))) (by kernel_rfl) ?_
        refine wpAnyK_takeTo 0 (some 17) ((.slice (some ⟨g1, o1, none⟩) m c1)) [2, 3, 4, 10, 11, 12, 13, 14, 15, 16, 17, 18, 19, 20, 21, 22, 23, 24] rfl rfl (by kernel_rfl) (by kernel_rfl) (by kernel_rfl) (by kernel_rfl) (fun _ _ _ h => h) hS (Or.inl ⟨rfl, fun w1 hw1 => by go_simp⟩) ?_
        simp only [Act.put, List.setIfInBounds_toArray, List.set_cons_zero, List.set_cons_succ]
        refine wpAnyK_takeTo 1 (some 18) (.int .i64 (k : Int)) [2, 3, 4, 10, 11, 12, 13, 14, 15, 16, 17, 18, 19, 20, 21, 22, 23, 24] rfl rfl (by kernel_rfl) (by kernel_rfl) (by kernel_rfl) (by kernel_rfl) (fun _ _ _ h => h) hS (Or.inl ⟨rfl, fun w1 hw1 => by go_simp⟩) ?_
        simp only [Act.put, List.setIfInBounds_toArray, List.set_cons_zero, List.set_cons_succ]
        refine wpAnyK_takeTo 2 (some 19) (.pointer (some ⟨g1, o1 + k * 3, none⟩)) [3, 4, 10, 11, 12, 13, 14, 15, 16, 17, 18, 19, 20, 21, 22, 23, 24] rfl rfl (by kernel_rfl) (by kernel_rfl) (by kernel_rfl) (by kernel_rfl) (fun _ _ _ h => h) hS (Or.inl ⟨rfl, fun w1 hw1 => by go_simp; first | done | (intro h; omega)⟩) ?_
        simp only [Act.put, List.setIfInBounds_toArray, List.set_cons_zero, List.set_cons_succ]
        refine wpAnyK_takeTo 3 (some 20) (.pointer (some ⟨g1, o1 + k * 3 + 1, none⟩)) [4, 10, 11, 12, 13, 14, 15, 16, 17, 18, 19, 20, 21, 22, 23, 24] rfl rfl (by kernel_rfl) (by kernel_rfl) (by kernel_rfl) (by kernel_rfl) (fun _ _ _ h => h) hS (Or.inl ⟨rfl, fun w1 hw1 => by go_simp⟩) ?_
        simp only [Act.put, List.setIfInBounds_toArray, List.set_cons_zero, List.set_cons_succ]
        refine wpAnyK_takeTo 4 (some 21) (.agg #[.int .i64 f.lo, .int .i64 f.hi]) [10, 11, 12, 13, 14, 15, 16, 17, 18, 19, 20, 21, 22, 23, 24] rfl rfl (by kernel_rfl) (by kernel_rfl) (by kernel_rfl) (by kernel_rfl) (fun _ _ _ h => h) hS (Or.inl ⟨rfl, fun w1 hw1 => by obtain ⟨⟨q0, q1, q2⟩, q3, q4, q5⟩ := hw1; go_simp⟩) ?_
        simp only [Act.put, List.setIfInBounds_toArray, List.set_cons_zero, List.set_cons_succ]
        refine wpAnyK_takeTo 5 (some 22) ((.slice (some ⟨g2, o2, none⟩) m c2)) [7, 8, 9, 10, 11, 12, 13, 14, 15, 16, 17, 18, 19, 20, 21, 22, 23, 24] rfl rfl (by kernel_rfl) (by kernel_rfl) (by kernel_rfl) (by kernel_rfl) (fun _ _ _ h => h) hS (Or.inl ⟨rfl, fun w1 hw1 => by go_simp⟩) ?_
        simp only [Act.put, List.setIfInBounds_toArray, List.set_cons_zero, List.set_cons_succ]
        refine wpAnyK_takeTo 6 (some 23) (.int .i64 (k : Int)) [7, 8, 9, 10, 11, 12, 13, 14, 15, 16, 17, 18, 19, 20, 21, 22, 23, 24] rfl rfl (by kernel_rfl) (by kernel_rfl) (by kernel_rfl) (by kernel_rfl) (fun _ _ _ h => h) hS (Or.inl ⟨rfl, fun w1 hw1 => by go_simp⟩) ?_
        simp only [Act.put, List.setIfInBounds_toArray, List.set_cons_zero, List.set_cons_succ]
        refine wpAnyK_takeTo 7 (some 24) (.pointer (some ⟨g2, o2 + k * 3, none⟩)) [8, 9, 10, 11, 12, 13, 14, 15, 16, 17, 18, 19, 20, 21, 22, 23, 24] rfl rfl (by kernel_rfl) (by kernel_rfl) (by kernel_rfl) (by kernel_rfl) (fun _ _ _ h => h) hS (Or.inl ⟨rfl, fun w1 hw1 => by go_simp; first | done | (intro h; omega)⟩) ?_
        simp only [Act.put, List.setIfInBounds_toArray, List.set_cons_zero, List.set_cons_succ]
        refine wpAnyK_takeTo 8 (some 25) (.pointer (some ⟨g2, o2 + k * 3 + 1, none⟩)) [9, 10, 11, 12, 13, 14, 15, 16, 17, 18, 19, 20, 21, 22, 23, 24] rfl rfl (by kernel_rfl) (by kernel_rfl) (by kernel_rfl) (by kernel_rfl) (fun _ _ _ h => h) hS (Or.inl ⟨rfl, fun w1 hw1 => by go_simp⟩) ?_
        simp only [Act.put, List.setIfInBounds_toArray, List.set_cons_zero, List.set_cons_succ]
        refine wpAnyK_takeTo 9 (some 26) (.agg #[.int .i64 h.lo, .int .i64 h.hi]) [10, 11, 12, 13, 14, 15, 16, 17, 18, 19, 20, 21, 22, 23, 24] rfl rfl (by kernel_rfl) (by kernel_rfl) (by kernel_rfl) (by kernel_rfl) (fun _ _ _ h => h) hS (Or.inl ⟨rfl, fun w1 hw1 => by obtain ⟨⟨q0, q1, q2⟩, q3, q4, q5⟩ := hw1; go_simp⟩) ?_
        simp only [Act.put, List.setIfInBounds_toArray, List.set_cons_zero, List.set_cons_succ]
        by_cases EQ : f.lo = h.lo ∧ f.hi = h.hi
        · refine wpAnyK_takeTo 10 (some 27) (.bool false) [11, 12, 13, 14, 15, 16, 17, 18, 19, 20, 21, 22, 23, 24] rfl rfl (by kernel_rfl) (by kernel_rfl) (by kernel_rfl) (by kernel_rfl) (fun _ _ _ h => h) hS (Or.inl ⟨rfl, fun w1 hw1 => by go_simp; first | done | simp [EQ] | exact fun a b => EQ ⟨a, b⟩⟩) ?_
          simp only [Act.put, List.setIfInBounds_toArray, List.set_cons_zero, List.set_cons_succ]
          refine wpAnyK_takeTo 11 (some 28) (.bool false) [12, 13, 14, 15, 16, 17, 18, 19, 20, 21, 22, 23, 24] rfl rfl (by kernel_rfl) (by kernel_rfl) (by kernel_rfl) (by kernel_rfl) (fun _ _ _ h => h) hS (Or.inl ⟨rfl, fun w1 hw1 => by go_simp⟩) ?_
          simp only [Act.put, List.setIfInBounds_toArray, List.set_cons_zero, List.set_cons_succ]
          refine wpAnyK_takeTo 12 (some 29) ((.slice (some ⟨g1, o1, none⟩) m c1)) [14, 15, 16, 22, 23, 24] rfl rfl (by kernel_rfl) (by kernel_rfl) (by kernel_rfl) (by kernel_rfl) (fun _ _ _ h => h) hS (Or.inl ⟨rfl, fun w1 hw1 => by go_simp⟩) ?_
          simp only [Act.put, List.setIfInBounds_toArray, List.set_cons_zero, List.set_cons_succ]
          refine wpAnyK_takeTo 13 (some 30) (.int .i64 (k : Int)) [14, 15, 16, 22, 23, 24] rfl rfl (by kernel_rfl) (by kernel_rfl) (by kernel_rfl) (by kernel_rfl) (fun _ _ _ h => h) hS (Or.inl ⟨rfl, fun w1 hw1 => by go_simp⟩) ?_
          simp only [Act.put, List.setIfInBounds_toArray, List.set_cons_zero, List.set_cons_succ]
          refine wpAnyK_takeTo 14 (some 31) (.pointer (some ⟨g1, o1 + k * 3, none⟩)) [15, 16, 22, 23, 24] rfl rfl (by kernel_rfl) (by kernel_rfl) (by kernel_rfl) (by kernel_rfl) (fun _ _ _ h => h) hS (Or.inl ⟨rfl, fun w1 hw1 => by go_simp; first | done | (intro h; omega)⟩) ?_
          simp only [Act.put, List.setIfInBounds_toArray, List.set_cons_zero, List.set_cons_succ]
          refine wpAnyK_takeTo 15 (some 32) (.pointer (some ⟨g1, o1 + k * 3, none⟩)) [16, 22, 23, 24] rfl rfl (by kernel_rfl) (by kernel_rfl) (by kernel_rfl) (by kernel_rfl) (fun _ _ _ h => h) hS (Or.inl ⟨rfl, fun w1 hw1 => by go_simp⟩) ?_
          simp only [Act.put, List.setIfInBounds_toArray, List.set_cons_zero, List.set_cons_succ]
          refine wpAnyK_takeTo 16 (some 33) (.slice f.p f.row.length f.c) [22, 23, 24] rfl rfl (by kernel_rfl) (by kernel_rfl) (by kernel_rfl) (by kernel_rfl) (fun _ _ _ h => h) hS (Or.inl ⟨rfl, fun w1 hw1 => by obtain ⟨⟨q0, q1, q2⟩, q3, q4, q5⟩ := hw1; go_simp⟩) ?_
          simp only [Act.put, List.setIfInBounds_toArray, List.set_cons_zero, List.set_cons_succ]
          refine wpAnyK_takeTo 17 (some 34) ((.slice (some ⟨g2, o2, none⟩) m c2)) [19, 20, 21, 22, 23, 24] rfl rfl (by kernel_rfl) (by kernel_rfl) (by kernel_rfl) (by kernel_rfl) (fun _ _ _ h => h) hS (Or.inl ⟨rfl, fun w1 hw1 => by go_simp⟩) ?_
          simp only [Act.put, List.setIfInBounds_toArray, List.set_cons_zero, List.set_cons_succ]
          refine wpAnyK_takeTo 18 (some 35) (.int .i64 (k : Int)) [19, 20, 21, 22, 23, 24] rfl rfl (by kernel_rfl) (by kernel_rfl) (by kernel_rfl) (by kernel_rfl) (fun _ _ _ h => h) hS (Or.inl ⟨rfl, fun w1 hw1 => by go_simp⟩) ?_
          simp only [Act.put, List.setIfInBounds_toArray, List.set_cons_zero, List.set_cons_succ]
          refine wpAnyK_takeTo 19 (some 36) (.pointer (some ⟨g2, o2 + k * 3, none⟩)) [20, 21, 22, 23, 24] rfl rfl (by kernel_rfl) (by kernel_rfl) (by kernel_rfl) (by kernel_rfl) (fun _ _ _ h => h) hS (Or.inl ⟨rfl, fun w1 hw1 => by go_simp; first | done | (intro h; omega)⟩) ?_
          simp only [Act.put, List.setIfInBounds_toArray, List.set_cons_zero, List.set_cons_succ]
          refine wpAnyK_takeTo 20 (some 37) (.pointer (some ⟨g2, o2 + k * 3, none⟩)) [21, 22, 23, 24] rfl rfl (by kernel_rfl) (by kernel_rfl) (by kernel_rfl) (by kernel_rfl) (fun _ _ _ h => h) hS (Or.inl ⟨rfl, fun w1 hw1 => by go_simp⟩) ?_
          simp only [Act.put, List.setIfInBounds_toArray, List.set_cons_zero, List.set_cons_succ]
          refine wpAnyK_takeTo 21 (some 38) (.slice h.p h.row.length h.c) [22, 23, 24] rfl rfl (by kernel_rfl) (by kernel_rfl) (by kernel_rfl) (by kernel_rfl) (fun _ _ _ h => h) hS (Or.inl ⟨rfl, fun w1 hw1 => by obtain ⟨⟨q0, q1, q2⟩, q3, q4, q5⟩ := hw1; go_simp⟩) ?_
          simp only [Act.put, List.setIfInBounds_toArray, List.set_cons_zero, List.set_cons_succ]
          refine wpAnyK_one (i := 22) (by kernel_rfl) rfl rfl ?_
          refine wp_call_to (some 39) rfl 36 #[.slice f.p f.row.length f.c, .slice h.p h.row.length h.c] (by go_simp) (rsame_any HOX.out HOY.out) ?_
          rintro e W2 ⟨rfl, f2⟩
          have HF2 := hide ((HFD.out.trans f2).mono (Y := fun _ => False) (by simp))
          refine ⟨_, rfl, fun _ => ?_, ?_⟩
          · have e2 : ∀ (g o : Nat) (v : Value), W.drew.cell? ⟨g, o, none⟩ = some v → W2.cell? ⟨g, o, none⟩ = some v := fun g o v h => by rw [World.cell?_of_block (w := W.drew) (f2.block g (World.block_lt_of_cell? _ _ h) id)]; exact h
            obtain ⟨⟨q0, q1, q2⟩, q3, q4, q5⟩ := hS
            exact ⟨⟨e2 _ _ _ q0, e2 _ _ _ q1, e2 _ _ _ q2⟩, e2 _ _ _ q3, e2 _ _ _ q4, e2 _ _ _ q5⟩
          simp only [Act.put, List.setIfInBounds_toArray, List.set_cons_zero, List.set_cons_succ]
          have hS2 : (fun V : World => (V.cell? ⟨g1, o1 + k * 3, none⟩ = some (.slice f.p f.row.length f.c) ∧ V.cell? ⟨g1, o1 + k * 3 + 1, none⟩ = some (.int .i64 f.lo) ∧ V.cell? ⟨g1, o1 + k * 3 + 2, none⟩ = some (.int .i64 f.hi)) ∧ (V.cell? ⟨g2, o2 + k * 3, none⟩ = some (.slice h.p h.row.length h.c) ∧ V.cell? ⟨g2, o2 + k * 3 + 1, none⟩ = some (.int .i64 h.lo) ∧ V.cell? ⟨g2, o2 + k * 3 + 2, none⟩ = some (.int .i64 h.hi))) W2 := by
            have e2 : ∀ (g o : Nat) (v : Value), W.drew.cell? ⟨g, o, none⟩ = some v → W2.cell? ⟨g, o, none⟩ = some v := fun g o v h => by rw [World.cell?_of_block (w := W.drew) (f2.block g (World.block_lt_of_cell? _ _ h) id)]; exact h
            obtain ⟨⟨q0, q1, q2⟩, q3, q4, q5⟩ := hS
            exact ⟨⟨e2 _ _ _ q0, e2 _ _ _ q1, e2 _ _ _ q2⟩, e2 _ _ _ q3, e2 _ _ _ q4, e2 _ _ _ q5⟩
          clear hS f2
          by_cases hr : f.row = h.row
          · have e3 : decide (f.row = h.row) = true := by simpa using hr
            rw [e3]
            have HFA := hide (show f.fa = h.fa by unfold Ft.fa; rw [hr, EQ.1, EQ.2])
            refine wpAnyK_takeTo 23 (some 40) (.bool false) [24] rfl rfl (by kernel_rfl) (by kernel_rfl) (by kernel_rfl) (by kernel_rfl) (fun _ _ _ h => h) hS2 (Or.inl ⟨rfl, fun w1 hw1 => by go_simp⟩) ?_
            simp only [Act.put, List.setIfInBounds_toArray, List.set_cons_zero, List.set_cons_succ]
            refine wpAnyK_takeTo 24 (some 41) (.bool false) [] rfl rfl (by kernel_rfl) (by kernel_rfl) (by kernel_rfl) (by kernel_rfl) (fun _ _ _ h => h) hS2 (Or.inl ⟨rfl, fun w1 hw1 => by go_simp⟩) ?_
            simp only [Act.put, List.setIfInBounds_toArray, List.set_cons_zero, List.set_cons_succ]
            refine wpAnyK_done (by kernel_rfl) ?_ _
            clear hS2
            go_wp2
            go_roundw
            case rel => exact ⟨k + 1, by omega, by go_num, fa_take HFX.out HHY.out HE.out HFA.out, HF2.out⟩
            case measure => simp [intOf]; omega
          · have e3 : decide (f.row = h.row) = false := by simpa using hr
            rw [e3]
            have HND := hide (fa_differ HFX.out HHY.out (fun e => hr (congrArg Fa.row e)))
            refine wpAnyK_takeTo 23 (some 40) (.bool true) [24] rfl rfl (by kernel_rfl) (by kernel_rfl) (by kernel_rfl) (by kernel_rfl) (fun _ _ _ h => h) hS2 (Or.inl ⟨rfl, fun w1 hw1 => by go_simp⟩) ?_
            simp only [Act.put, List.setIfInBounds_toArray, List.set_cons_zero, List.set_cons_succ]
            refine wpAnyK_takeTo 24 (some 41) (.bool true) [] rfl rfl (by kernel_rfl) (by kernel_rfl) (by kernel_rfl) (by kernel_rfl) (fun _ _ _ h => h) hS2 (Or.inl ⟨rfl, fun w1 hw1 => by go_simp⟩) ?_
            simp only [Act.put, List.setIfInBounds_toArray, List.set_cons_zero, List.set_cons_succ]
            refine wpAnyK_done (by kernel_rfl) ?_ _
            clear hS2
            go_wp2
            go_ret
            exact ⟨by rw [HND.out]; rfl, HF2.out⟩
        · have HND := hide (fa_differ HFX.out HHY.out (fun e => EQ ⟨congrArg Fa.lo e, congrArg Fa.hi e⟩))
          refine wpAnyK_takeTo 10 (some 27) (.bool true) [11, 12, 13, 14, 15, 16, 17, 18, 19, 20, 21, 22, 23, 24] rfl rfl (by kernel_rfl) (by kernel_rfl) (by kernel_rfl) (by kernel_rfl) (fun _ _ _ h => h) hS (Or.inl ⟨rfl, fun w1 hw1 => by go_simp; first | done | simp [EQ] | exact fun a b => EQ ⟨a, b⟩⟩) ?_
          simp only [Act.put, List.setIfInBounds_toArray, List.set_cons_zero, List.set_cons_succ]
          refine wpAnyK_takeTo 11 (some 28) (.bool true) [12, 13, 14, 15, 16, 17, 18, 19, 20, 21, 22, 23, 24] rfl rfl (by kernel_rfl) (by kernel_rfl) (by kernel_rfl) (by kernel_rfl) (fun _ _ _ h => h) hS (Or.inl ⟨rfl, fun w1 hw1 => by go_simp⟩) ?_
          simp only [Act.put, List.setIfInBounds_toArray, List.set_cons_zero, List.set_cons_succ]
          refine wpAnyK_takeTo 12 (some 29) (undef) [14, 15, 16, 22, 23, 24] rfl rfl (by kernel_rfl) (by kernel_rfl) (by kernel_rfl) (by kernel_rfl) (fun _ _ _ h => h) hS (Or.inr ⟨rfl, rfl⟩) ?_
          simp only [Act.put, List.setIfInBounds_toArray, List.set_cons_zero, List.set_cons_succ]
          refine wpAnyK_takeTo 13 (some 30) (undef) [14, 15, 16, 22, 23, 24] rfl rfl (by kernel_rfl) (by kernel_rfl) (by kernel_rfl) (by kernel_rfl) (fun _ _ _ h => h) hS (Or.inr ⟨rfl, rfl⟩) ?_
          simp only [Act.put, List.setIfInBounds_toArray, List.set_cons_zero, List.set_cons_succ]
          refine wpAnyK_takeTo 14 (some 31) (undef) [15, 16, 22, 23, 24] rfl rfl (by kernel_rfl) (by kernel_rfl) (by kernel_rfl) (by kernel_rfl) (fun _ _ _ h => h) hS (Or.inr ⟨rfl, rfl⟩) ?_
          simp only [Act.put, List.setIfInBounds_toArray, List.set_cons_zero, List.set_cons_succ]
          refine wpAnyK_takeTo 15 (some 32) (undef) [16, 22, 23, 24] rfl rfl (by kernel_rfl) (by kernel_rfl) (by kernel_rfl) (by kernel_rfl) (fun _ _ _ h => h) hS (Or.inr ⟨rfl, rfl⟩) ?_
          simp only [Act.put, List.setIfInBounds_toArray, List.set_cons_zero, List.set_cons_succ]
          refine wpAnyK_takeTo 16 (some 33) (undef) [22, 23, 24] rfl rfl (by kernel_rfl) (by kernel_rfl) (by kernel_rfl) (by kernel_rfl) (fun _ _ _ h => h) hS (Or.inr ⟨rfl, rfl⟩) ?_
          simp only [Act.put, List.setIfInBounds_toArray, List.set_cons_zero, List.set_cons_succ]
          refine wpAnyK_takeTo 17 (some 34) (undef) [19, 20, 21, 22, 23, 24] rfl rfl (by kernel_rfl) (by kernel_rfl) (by kernel_rfl) (by kernel_rfl) (fun _ _ _ h => h) hS (Or.inr ⟨rfl, rfl⟩) ?_
          simp only [Act.put, List.setIfInBounds_toArray, List.set_cons_zero, List.set_cons_succ]
          refine wpAnyK_takeTo 18 (some 35) (undef) [19, 20, 21, 22, 23, 24] rfl rfl (by kernel_rfl) (by kernel_rfl) (by kernel_rfl) (by kernel_rfl) (fun _ _ _ h => h) hS (Or.inr ⟨rfl, rfl⟩) ?_
          simp only [Act.put, List.setIfInBounds_toArray, List.set_cons_zero, List.set_cons_succ]
          refine wpAnyK_takeTo 19 (some 36) (undef) [20, 21, 22, 23, 24] rfl rfl (by kernel_rfl) (by kernel_rfl) (by kernel_rfl) (by kernel_rfl) (fun _ _ _ h => h) hS (Or.inr ⟨rfl, rfl⟩) ?_
          simp only [Act.put, List.setIfInBounds_toArray, List.set_cons_zero, List.set_cons_succ]
          refine wpAnyK_takeTo 20 (some 37) (undef) [21, 22, 23, 24] rfl rfl (by kernel_rfl) (by kernel_rfl) (by kernel_rfl) (by kernel_rfl) (fun _ _ _ h => h) hS (Or.inr ⟨rfl, rfl⟩) ?_
          simp only [Act.put, List.setIfInBounds_toArray, List.set_cons_zero, List.set_cons_succ]
          refine wpAnyK_takeTo 21 (some 38) (undef) [22, 23, 24] rfl rfl (by kernel_rfl) (by kernel_rfl) (by kernel_rfl) (by kernel_rfl) (fun _ _ _ h => h) hS (Or.inr ⟨rfl, rfl⟩) ?_
          simp only [Act.put, List.setIfInBounds_toArray, List.set_cons_zero, List.set_cons_succ]
          refine wpAnyK_takeTo 22 (some 39) (undef) [23, 24] rfl rfl (by kernel_rfl) (by kernel_rfl) (by kernel_rfl) (by kernel_rfl) (fun _ _ _ h => h) hS (Or.inr ⟨rfl, rfl⟩) ?_
          simp only [Act.put, List.setIfInBounds_toArray, List.set_cons_zero, List.set_cons_succ]
          refine wpAnyK_takeTo 23 (some 40) (undef) [24] rfl rfl (by kernel_rfl) (by kernel_rfl) (by kernel_rfl) (by kernel_rfl) (fun _ _ _ h => h) hS (Or.inr ⟨rfl, rfl⟩) ?_
          simp only [Act.put, List.setIfInBounds_toArray, List.set_cons_zero, List.set_cons_succ]
          refine wpAnyK_takeTo 24 (some 41) (.bool true) [] rfl rfl (by kernel_rfl) (by kernel_rfl) (by kernel_rfl) (by kernel_rfl) (fun _ _ _ h => h) hS (Or.inl ⟨rfl, fun w1 hw1 => by go_simp⟩) ?_
          simp only [Act.put, List.setIfInBounds_toArray, List.set_cons_zero, List.set_cons_succ]
          refine wpAnyK_done (by kernel_rfl) ?_ _
          clear hS
          go_wp2
          go_ret
          exact ⟨by rw [HND.out]; rfl, HFD.out⟩
      · obtain rfl : k = m := by omega
        have HE2 := hide (show decide (X.map Ft.fa = Y.map Ft.fa) = true by
          have e := HE.out
          rw [HM.out, List.take_length, ← HM.out, HM2.out, List.take_length] at e
          simpa using e)
        go_wp2
        go_ret
        exact ⟨by rw [HE2.out]; rfl, HF.out⟩
  · have HND := hide (show decide (X.map Ft.fa = Y.map Ft.fa) = false by
      rw [decide_eq_false_iff_not]
      intro e
      have := congrArg List.length e
      rw [List.length_map, List.length_map] at this
      have h1 := HM.out
      have h2 := HM2.out
      omega)
    rw [HND.out]
    have hl2 : ¬ (m : Int) = (m2 : Int) := by omega
    go_enter Tryz.func15, Tryz.ntmps15
    go_wp2
    go_ret
    exact ⟨rfl, Fr.refl _ _⟩
end Go.Proofs.YtlapifncplbcnaaGreat
