/- Add. -/
import Derived.Test.YtigkinakhijfoaaGreatJz
namespace Go.Proofs.YtigkinakhijfoaaGreat
open Go.RowKit
set_option maxRecDepth 100000
set_option linter.unusedVariables false
set_option linter.unusedSimpArgs false

/-- The tree's box, and that of a period. -/
structure EnvA (W : World) (gt gm fb tb g : Nat) (lo hi : Int) : Prop where
  b : W.heap[gt]? = some (.cells #[.map (some gm), .pointer (some ⟨fb, 0, none⟩), .pointer (some ⟨tb, 0, none⟩)] 50 (0, 0))
  t : Two W g (.int .i64 lo) (.int .i64 hi)
  lt : g < W.heap.size
theorem EnvA.fr {W W' : World} {Z : Nat → Prop} {gt gm fb tb g : Nat} {lo hi : Int} (h : EnvA W gt gm fb tb g lo hi) (hf : Fr W W' Z) (h1 : ¬ Z gt) (h2 : ¬ Z g) : EnvA W' gt gm fb tb g lo hi :=
  ⟨by rw [hf.block gt (Array.getElem?_eq_some_iff.1 h.b).1 h1]; exact h.b, h.t.fr hf h2, Nat.lt_of_lt_of_le h.lt hf.size⟩
theorem EnvA.cells {W : World} {gt gm fb tb g : Nat} {lo hi : Int} (h : EnvA W gt gm fb tb g lo hi) : W.cell? ⟨gt, 0, none⟩ = some (.map (some gm)) ∧ W.cell? ⟨gt, 1, none⟩ = some (.pointer (some ⟨fb, 0, none⟩)) ∧ W.cell? ⟨gt, 2, none⟩ = some (.pointer (some ⟨tb, 0, none⟩)) ∧ W.cell? ⟨g, 0, none⟩ = some (.int .i64 lo) ∧ W.cell? ⟨g, 1, none⟩ = some (.int .i64 hi) :=
  ⟨(cell_of_row _ _ _ _ _ _ h.b).trans rfl, (cell_of_row _ _ _ _ _ _ h.b).trans rfl, (cell_of_row _ _ _ _ _ _ h.b).trans rfl, h.t.1, h.t.2.1⟩
/-- Three numbers laid, and their text. -/
theorem text3 (a b c : Int) (W : World) : Calls Tryz.prog 17 #[.slice (some ⟨W.heap.size, 0, none⟩) 3 3] (W.alloc (.cells #[.int .i64 a, .int .i64 b, .int .i64 c] 2)) fun e w' => e = .returned (.string (txt [a, b, c])) ∧ Fr W w' (fun _ => False) := by
  have f := Fr.alloc W (.cells #[.int .i64 a, .int .i64 b, .int .i64 c] 2) (fun _ => False)
  refine (text_any W.heap.size 3 [a, b, c] 3 rfl _ (intsAt_new W [a, b, c] 2 _ rfl) (by simp) (by omega)).mono ?_
  rintro e w' ⟨rfl, h⟩
  exact ⟨rfl, (f.trans h).mono (by simp)⟩
/-- What Add leaves. -/
def AddQ (w : World) (base gt N : Nat) (L : List Itm) (X : Nat → Prop) (p : Itm) (e : Ending) (w' : World) : Prop :=
  (rightB p.per = false ∧ e = .returned (.int .i64 40) ∧ Fr w w' (fun _ => False)) ∨
  (rightB p.per = true ∧ (∃ q ∈ L, q.id = p.id) ∧ e = .returned (.int .i64 90) ∧ Fr w w' (fun _ => False)) ∨
  (rightB p.per = true ∧ (∀ q ∈ L, q.id ≠ p.id) ∧ e = .returned (.int .i64 0) ∧ (∃ X' : Nat → Prop, RT w' base gt (N + 1) (L ++ [p]) X' ∧ ∀ k, X' k → X k ∨ w.heap.size ≤ k) ∧ Fr w w' X)

set_option maxHeartbeats 4000000 in
theorem add_any {w : World} {base gt N : Nat} {L : List Itm} {X : Nat → Prop} (h : RT w base gt N L X) (id lo hi : Int) (hid : In64 id) (hN : N + 1 ≤ 1099511627776) (hb : base ≤ w.heap.size) :
    Calls Tryz.prog 6 #[.pointer (some ⟨gt, 0, none⟩), .int .i64 id, .agg #[.int .i64 lo, .int .i64 hi]] w (AddQ w base gt N L X ⟨id, lo, hi⟩) := by
  have hXlt := h.lt
  obtain ⟨gm, fb, tb, dF, dT, c1, c2, h1, h2, h3, h4, h5, h6, h7, h8, h9, h10, h11⟩ := h
  obtain ⟨Q, hQ⟩ : ∃ Q, Q = AddQ w base gt N L X ⟨id, lo, hi⟩ := ⟨_, rfl⟩
  rw [← hQ]
  obtain ⟨g, hg⟩ : ∃ g, g = w.heap.size := ⟨_, rfl⟩
  obtain ⟨w1, hw1⟩ : ∃ w1, w1 = w.alloc (.cells #[.int .i64 lo, .int .i64 hi] 24) := ⟨_, rfl⟩
  have f1 : Fr w w1 (fun _ => False) := by rw [hw1]; exact Fr.alloc w _ _
  have hgtw := (Array.getElem?_eq_some_iff.1 h1).1
  have E1 : EnvA w1 gt gm fb tb g lo hi := ⟨by rw [f1.block gt hgtw (fun h => h)]; exact h1, by rw [hw1, hg]; exact two_of (heap_alloc_new w _), by rw [hw1, hg]; simp⟩
  have HXL := hide hXlt
  have HQ := hide hQ
  have HG := hide hg
  have HW := hide hw1
  have HE1 := hide E1
  have HF1 := hide f1
  have HM0 := hide h2
  have HTF0 := hide h3
  have HTT0 := hide h4
  have HCF := hide h5
  have HCT := hide h6
  have HIO := hide h7
  have HBD := hide h8
  have HAP := hide h9
  have HBS := hide h10
  have HX := hide h11
  have HGW := hide hgtw
  have HID := hide hid
  have HN := hide hN
  have HB := hide hb
  have HFK := hide (fun V : World => fork_any ⟨lo, hi⟩ V)
  obtain ⟨c0, x1, x2, y0, y1⟩ := E1.cells
  clear hXlt hQ hg hw1 f1 E1 h1 h2 h3 h4 h5 h6 h7 h8 h9 h10 h11 hgtw hid hN hb
  unfold perV at HFK
  go_enter Tryz.func6, Tryz.ntmps6
  go_wp2_with (rw [← HW.out, ← HG.out]; clear HW)
  refine (HFK.out w1).mono ?_
  rintro e w2 ⟨rfl, f2⟩
  have HE2 := hide (HE1.out.fr f2 (fun h => h) (fun h => h))
  have HF2 := hide ((HF1.out.trans f2).mono (Y := fun _ => False) (by simp))
  clear f2 c0 x1 x2 y0 y1 HE1 HF1 HFK
  by_cases hr : rightB ⟨lo, hi⟩ = true
  · have hcode := codeP_ok _ hr
    have hfk := forkV_ok hr
    obtain ⟨n, hn⟩ : ∃ n : Int, n = forkV ⟨lo, hi⟩ := ⟨_, rfl⟩
    rw [hcode, ← hn]
    have HND : Hid (nd ⟨id, lo, hi⟩ = n) := hide (by rw [hn, hfk]; rfl)
    have HR := hide hr
    have HOK : Hid (Itm.Ok ⟨id, lo, hi⟩) := hide (by
      obtain ⟨a1, a2, a3⟩ := (rightB_iff _).1 hr
      have := HID.out
      unfold In64 at this
      exact ⟨a1, a2, a3, this.1, by show id < _; omega⟩)
    clear hcode hfk hn hr
    obtain ⟨c0, x1, x2, y0, y1⟩ := HE2.out.cells
    have HM2 := hide (HM0.out.fr HF2.out (fun h => h))
    by_cases hth : ∃ q ∈ L, q.id = id
    · obtain ⟨q, hq, hqi⟩ := hth
      have hpx : px L id = some q.per := by rw [← hqi]; exact px_some HIO.out.1 hq
      have hlk := HM2.out.mf.look_ok (x := id) HID.out
      rw [hpx] at hlk
      have hlk : (Instr.lookup 48 (.map (some gm)) (.int .i64 id) true).run Tryz.prog w2 = .ok (.tuple #[.agg #[.int .i64 q.lo, .int .i64 q.hi], .bool true]) w2 := hlk
      obtain ⟨w3, hw3⟩ : ∃ w3, w3 = w2.alloc (.cells #[.int .i64 q.lo, .int .i64 q.hi] 24) := ⟨_, rfl⟩
      have f3 : Fr w2 w3 (fun _ => False) := by rw [hw3]; exact Fr.alloc w2 _ _
      have HRES : Hid (Q (.returned (.int .i64 90)) w3) := hide (by
        rw [HQ.out]
        exact .inr (.inl ⟨HR.out, ⟨q, hq, hqi⟩, rfl, (HF2.out.trans f3).mono (by simp)⟩))
      have HW3 := hide hw3
      clear hq hqi hpx hw3 f3 x1 x2 y0 y1
      go_wp2_with (rw [← HW3.out]; clear HW3)
      first | exact HRES.out | (go_ret; exact HRES.out)
    · have hno : ∀ q ∈ L, q.id ≠ id := fun q hq e => hth ⟨q, hq, e⟩
      have hpx := px_none hno
      have hlk := HM2.out.mf.look_ok (x := id) HID.out
      rw [hpx] at hlk
      have hlk : (Instr.lookup 48 (.map (some gm)) (.int .i64 id) true).run Tryz.prog w2 = .ok (.tuple #[.agg #[.int .i64 0, .int .i64 0], .bool false]) w2 := hlk
      obtain ⟨w3, hw3⟩ : ∃ w3, w3 = w2.alloc (.cells #[.int .i64 0, .int .i64 0] 24) := ⟨_, rfl⟩
      have f3 : Fr w2 w3 (fun _ => False) := by rw [hw3]; exact Fr.alloc w2 _ _
      have HNO := hide hno
      have HPX := hide hpx
      have HW3 := hide hw3
      have HE3 := hide (HE2.out.fr f3 (fun h => h) (fun h => h))
      have HF3 := hide ((HF2.out.trans f3).mono (Y := fun _ => False) (by simp))
      clear hno hpx hw3 f3 x1 x2 y0 y1 hth
      go_wp2_with fail
      rw [← HW3.out]
      clear HW3
      clear hlk c0 HE2 HF2 HM2
      refine wp_region_K (fun z => decide (z < 6)) (fun U : World => U = w3.drew) (by kernel_rfl) ?_
      have D3 := Fr.drew w3 (fun _ => False)
      have HE4 := hide (HE3.out.fr D3 (fun h => h) (fun h => h))
      have HF4 := hide ((HF3.out.trans D3).mono (Y := fun _ => False) (by simp))
      have HM4 := hide (HM0.out.fr HF4.out (fun h => h))
      clear D3 HE3 HF3
      generalize w3.drew = U4 at *
      have hS : (fun U : World => U = U4) U4 := rfl
      obtain ⟨c0, x1, x2, y0, y1⟩ := HE4.out.cells
      obtain ⟨U5, hup, hm5, f5⟩ := HM4.out.put (by have := HBD.out; have := HN.out; unfold maxLen; omega) HID.out HPX.out ⟨lo, hi⟩
      have hup : (Instr.mapUpdate 48 (.map (some gm)) (.int .i64 id) (.agg #[.int .i64 lo, .int .i64 hi])).run Tryz.prog U4 = .ok () U5 := hup
      have HM5 : Hid (MapN U5 gm (L ++ [Itm.mk id lo hi]).length (px (L ++ [Itm.mk id lo hi]))) := hide (by rw [px_snoc (p := ⟨id, lo, hi⟩) HNO.out, List.length_append]; exact hm5)
      have hgg : g ≠ gm := by have := HM0.out.mf.lt; have := HG.out; omega
      have HE5 := hide (HE4.out.fr f5 (fun h => HAP.out.1 h) hgg)
      have HF5 := hide ((HF4.out.trans f5).mono (Y := fun k => k = gm) (fun k _ h => by rcases h with h | h; exact h.elim; exact h))
      clear hm5 f5 HM4 HE4 HF4 hgg
      refine wpAnyK_takeTo 0 (some 29) (.pointer (some ⟨gt, 0, none⟩)) [1, 2, 3, 6] rfl rfl (by kernel_rfl) (by kernel_rfl) (by kernel_rfl) (by kernel_rfl) (fun _ _ _ h => h) hS (Or.inl ⟨rfl, fun w1 hw1 => by have hw1 : w1 = U4 := hw1; subst hw1; go_simp⟩) ?_
      simp only [Act.put, List.setIfInBounds_toArray, List.set_cons_zero, List.set_cons_succ]
      refine wpAnyK_takeTo 1 (some 30) (.pointer (some ⟨gt, 0, none⟩)) [2, 3, 6] rfl rfl (by kernel_rfl) (by kernel_rfl) (by kernel_rfl) (by kernel_rfl) (fun _ _ _ h => h) hS (Or.inl ⟨rfl, fun w1 hw1 => by have hw1 : w1 = U4 := hw1; subst hw1; go_simp⟩) ?_
      simp only [Act.put, List.setIfInBounds_toArray, List.set_cons_zero, List.set_cons_succ]
      refine wpAnyK_takeTo 2 (some 31) (.pointer (some ⟨gt, 0, none⟩)) [3, 6] rfl rfl (by kernel_rfl) (by kernel_rfl) (by kernel_rfl) (by kernel_rfl) (fun _ _ _ h => h) hS (Or.inl ⟨rfl, fun w1 hw1 => by have hw1 : w1 = U4 := hw1; subst hw1; go_simp⟩) ?_
      simp only [Act.put, List.setIfInBounds_toArray, List.set_cons_zero, List.set_cons_succ]
      refine wpAnyK_takeTo 3 (some 32) (.map (some gm)) [6] rfl rfl (by kernel_rfl) (by kernel_rfl) (by kernel_rfl) (by kernel_rfl) (fun _ _ _ h => h) hS (Or.inl ⟨rfl, fun w1 hw1 => by have hw1 : w1 = U4 := hw1; subst hw1; go_simp⟩) ?_
      simp only [Act.put, List.setIfInBounds_toArray, List.set_cons_zero, List.set_cons_succ]
      refine wpAnyK_takeTo 4 (some 33) (.int .i64 id) [6] rfl rfl (by kernel_rfl) (by kernel_rfl) (by kernel_rfl) (by kernel_rfl) (fun _ _ _ h => h) hS (Or.inl ⟨rfl, fun w1 hw1 => by have hw1 : w1 = U4 := hw1; subst hw1; go_simp⟩) ?_
      simp only [Act.put, List.setIfInBounds_toArray, List.set_cons_zero, List.set_cons_succ]
      refine wpAnyK_takeTo 5 (some 34) (.agg #[.int .i64 lo, .int .i64 hi]) [6] rfl rfl (by kernel_rfl) (by kernel_rfl) (by kernel_rfl) (by kernel_rfl) (fun _ _ _ h => h) hS (Or.inl ⟨rfl, fun w1 hw1 => by have hw1 : w1 = U4 := hw1; subst hw1; go_simp⟩) ?_
      simp only [Act.put, List.setIfInBounds_toArray, List.set_cons_zero, List.set_cons_succ]
      refine wpAnyK_one (i := 6) (by kernel_rfl) rfl rfl ?_
      go_simp
      refine wpAnyK_done (by kernel_rfl) ?_ _
      clear hS hup c0 x1 x2 y0 y1
      go_wp2_with fail
      refine wp_region_K (fun z => decide (z < 11)) (fun U : World => Fr U5.drew U (fun _ => False)) (by kernel_rfl) ?_
      have D := Fr.drew U5 (fun _ => False)
      have HED := hide (HE5.out.fr D (fun h => h) (fun h => h))
      have HFD := hide ((HF5.out.trans D).mono (Y := fun k => k = gm) (fun k _ h => by rcases h with h | h; exact h; exact h.elim))
      have HMD := hide (HM5.out.fr D (fun h => h))
      clear HF5 HM5
      clear D HE5
      generalize hVV : U5.drew = V6 at *
      clear hVV
      have hS : (fun U : World => Fr V6 U (fun _ => False)) V6 := Fr.refl _ _
      refine wpAnyK_takeTo 0 (some 35) (.pointer (some ⟨gt, 0, none⟩)) [1, 2, 3, 11] rfl rfl (by kernel_rfl) (by kernel_rfl) (by kernel_rfl) (by kernel_rfl) (fun _ _ _ h => h) hS (Or.inl ⟨rfl, fun w1 hw1 => by obtain ⟨c0, x1, x2, y0, y1⟩ := (HED.out.fr (hw1 : Fr V6 w1 (fun _ => False)) (fun h => h) (fun h => h)).cells; go_simp⟩) ?_
      simp only [Act.put, List.setIfInBounds_toArray, List.set_cons_zero, List.set_cons_succ]
      refine wpAnyK_takeTo 1 (some 36) (.pointer (some ⟨gt, 0, none⟩)) [2, 3, 11] rfl rfl (by kernel_rfl) (by kernel_rfl) (by kernel_rfl) (by kernel_rfl) (fun _ _ _ h => h) hS (Or.inl ⟨rfl, fun w1 hw1 => by obtain ⟨c0, x1, x2, y0, y1⟩ := (HED.out.fr (hw1 : Fr V6 w1 (fun _ => False)) (fun h => h) (fun h => h)).cells; go_simp⟩) ?_
      simp only [Act.put, List.setIfInBounds_toArray, List.set_cons_zero, List.set_cons_succ]
      refine wpAnyK_takeTo 2 (some 37) (.pointer (some ⟨gt, 1, none⟩)) [3, 11] rfl rfl (by kernel_rfl) (by kernel_rfl) (by kernel_rfl) (by kernel_rfl) (fun _ _ _ h => h) hS (Or.inl ⟨rfl, fun w1 hw1 => by obtain ⟨c0, x1, x2, y0, y1⟩ := (HED.out.fr (hw1 : Fr V6 w1 (fun _ => False)) (fun h => h) (fun h => h)).cells; go_simp⟩) ?_
      simp only [Act.put, List.setIfInBounds_toArray, List.set_cons_zero, List.set_cons_succ]
      refine wpAnyK_takeTo 3 (some 38) (.pointer (some ⟨fb, 0, none⟩)) [11] rfl rfl (by kernel_rfl) (by kernel_rfl) (by kernel_rfl) (by kernel_rfl) (fun _ _ _ h => h) hS (Or.inl ⟨rfl, fun w1 hw1 => by obtain ⟨c0, x1, x2, y0, y1⟩ := (HED.out.fr (hw1 : Fr V6 w1 (fun _ => False)) (fun h => h) (fun h => h)).cells; go_simp⟩) ?_
      simp only [Act.put, List.setIfInBounds_toArray, List.set_cons_zero, List.set_cons_succ]
      refine wpAnyK_takeTo 4 (some 39) (.int .i64 n) [8, 9, 11] rfl rfl (by kernel_rfl) (by kernel_rfl) (by kernel_rfl) (by kernel_rfl) (fun _ _ _ h => h) hS (Or.inl ⟨rfl, fun w1 hw1 => by obtain ⟨c0, x1, x2, y0, y1⟩ := (HED.out.fr (hw1 : Fr V6 w1 (fun _ => False)) (fun h => h) (fun h => h)).cells; go_simp⟩) ?_
      simp only [Act.put, List.setIfInBounds_toArray, List.set_cons_zero, List.set_cons_succ]
      refine wpAnyK_takeTo 5 (some 40) (.pointer (some ⟨g, 0, none⟩)) [6, 8, 9, 11] rfl rfl (by kernel_rfl) (by kernel_rfl) (by kernel_rfl) (by kernel_rfl) (fun _ _ _ h => h) hS (Or.inl ⟨rfl, fun w1 hw1 => by obtain ⟨c0, x1, x2, y0, y1⟩ := (HED.out.fr (hw1 : Fr V6 w1 (fun _ => False)) (fun h => h) (fun h => h)).cells; go_simp⟩) ?_
      simp only [Act.put, List.setIfInBounds_toArray, List.set_cons_zero, List.set_cons_succ]
      refine wpAnyK_takeTo 6 (some 41) (.int .i64 lo) [8, 9, 11] rfl rfl (by kernel_rfl) (by kernel_rfl) (by kernel_rfl) (by kernel_rfl) (fun _ _ _ h => h) hS (Or.inl ⟨rfl, fun w1 hw1 => by obtain ⟨c0, x1, x2, y0, y1⟩ := (HED.out.fr (hw1 : Fr V6 w1 (fun _ => False)) (fun h => h) (fun h => h)).cells; go_simp⟩) ?_
      simp only [Act.put, List.setIfInBounds_toArray, List.set_cons_zero, List.set_cons_succ]
      refine wpAnyK_takeTo 7 (some 42) (.int .i64 id) [8, 9, 11] rfl rfl (by kernel_rfl) (by kernel_rfl) (by kernel_rfl) (by kernel_rfl) (fun _ _ _ h => h) hS (Or.inl ⟨rfl, fun w1 hw1 => by obtain ⟨c0, x1, x2, y0, y1⟩ := (HED.out.fr (hw1 : Fr V6 w1 (fun _ => False)) (fun h => h) (fun h => h)).cells; go_simp⟩) ?_
      simp only [Act.put, List.setIfInBounds_toArray, List.set_cons_zero, List.set_cons_succ]
      refine wpAnyK_takeTo 10 (some 45) (.int .i64 id) [11] rfl rfl (by kernel_rfl) (by kernel_rfl) (by kernel_rfl) (by kernel_rfl) (fun _ _ _ h => h) hS (Or.inl ⟨rfl, fun w1 hw1 => by obtain ⟨c0, x1, x2, y0, y1⟩ := (HED.out.fr (hw1 : Fr V6 w1 (fun _ => False)) (fun h => h) (fun h => h)).cells; go_simp⟩) ?_
      simp only [Act.put, List.setIfInBounds_toArray, List.set_cons_zero, List.set_cons_succ]
      clear hS
      refine wpAnyK_one (i := 8) (by kernel_rfl) rfl rfl ?_
      go_simp
      refine ⟨Fr.alloc _ _ _, ?_⟩
      refine wpAnyK_one (i := 9) (by kernel_rfl) rfl rfl ?_
      refine wp_call_to (some 44) rfl 17 #[.slice (some ⟨V6.heap.size, 0, none⟩) 3 3] (by go_simp) (text3 n lo id V6) ?_
      rintro e W6 ⟨rfl, ft⟩
      refine ⟨_, rfl, fun _ => ft, ?_⟩
      simp only [Act.put, List.setIfInBounds_toArray, List.set_cons_zero, List.set_cons_succ]
      have HEW := hide (HED.out.fr ft (fun h => h) (fun h => h))
      have HFW := hide ((HFD.out.trans ft).mono (Y := fun k => k = gm) (fun k _ h => by rcases h with h | h; exact h; exact h.elim))
      have HMW := hide (HMD.out.fr ft (fun h => h))
      have HTFW := hide (HTF0.out.fr HFW.out (fun k hk h => HAP.out.2.2.2.1 (by rw [← h]; exact hk)))
      clear ft HED HFD HMD
      refine wpAnyK_one (i := 11) (by kernel_rfl) rfl rfl ?_
      refine wp_call_to (some 46) rfl 16 #[.pointer (some ⟨fb, 0, none⟩), .string (txt [n, lo, id]), .int .i64 id] (by go_simp) (HTFW.out.put (by have := HB.out; have := HFW.out.size; omega) (txt [n, lo, id]) id (by have := HBD.out; have := HN.out; omega)) ?_
      rintro e W7 ⟨b7, dF', rfl, -, tF7, cF7, lF7, xF7, f7⟩
      refine ⟨_, rfl, fun h => by simp at h, ?_⟩
      simp only [Act.put, List.setIfInBounds_toArray, List.set_cons_zero, List.set_cons_succ]
      have hfg : ¬ TX fb dF g := fun h => by have := HTF0.out.lt g h; have := HG.out; omega
      have HE7 := hide (HEW.out.fr f7 HAP.out.2.1 hfg)
      have HM7 := hide (HMW.out.fr f7 HAP.out.2.2.2.1)
      have HTF7 := hide tF7
      have HCF7 : Hid (Con keyF dF'.F (L ++ [⟨id, lo, hi⟩])) := hide (HCF.out.put (by rw [show keyF ⟨id, lo, hi⟩ = txt [n, lo, id] by unfold keyF; rw [HND.out]]; exact cF7) (fun q hq e => HNO.out q hq (keyF_inj (HIO.out.2 q hq) HOK.out e)))
      have HXF7 : Hid (∀ k, TX fb dF' k → TX fb dF k ∨ w.heap.size ≤ k) := hide (fun k hk => (xF7 k hk).imp (fun h => h) (fun h => by have := HFW.out.size; omega))
      have HF7 := hide (HFW.out.trans f7)
      have HLF7 := hide lF7
      have HFN7 : Hid (∀ k, TX fb dF' k → k < W7.heap.size) := hide tF7.lt
      have HSW7 := hide f7.size
      clear tF7 cF7 lF7 xF7 f7 HEW HFW HMW HTFW hfg
      refine wpAnyK_done (by kernel_rfl) ?_ _
      go_wp2_with fail
      refine wp_region_K (fun z => decide (z < 11)) (fun U : World => Fr W7.drew U (fun _ => False)) (by kernel_rfl) ?_
      have D := Fr.drew W7 (fun _ => False)
      have HED := hide (HE7.out.fr D (fun h => h) (fun h => h))
      have HFD := hide ((HF7.out.trans D).mono (Y := fun k => k = gm ∨ TX fb dF k) (fun k _ h => by rcases h with h | h; exact h; exact h.elim))
      have HMD := hide (HM7.out.fr D (fun h => h))
      have HTFD := hide (HTF7.out.fr D (fun _ _ h => h))
      have HSD := hide D.size
      clear HF7 HM7 HTF7
      clear D HE7
      generalize hVV : W7.drew = V8 at *
      clear hVV
      have hS : (fun U : World => Fr V8 U (fun _ => False)) V8 := Fr.refl _ _
      refine wpAnyK_takeTo 0 (some 47) (.pointer (some ⟨gt, 0, none⟩)) [1, 2, 3, 11] rfl rfl (by kernel_rfl) (by kernel_rfl) (by kernel_rfl) (by kernel_rfl) (fun _ _ _ h => h) hS (Or.inl ⟨rfl, fun w1 hw1 => by obtain ⟨c0, x1, x2, y0, y1⟩ := (HED.out.fr (hw1 : Fr V8 w1 (fun _ => False)) (fun h => h) (fun h => h)).cells; go_simp⟩) ?_
      simp only [Act.put, List.setIfInBounds_toArray, List.set_cons_zero, List.set_cons_succ]
      refine wpAnyK_takeTo 1 (some 48) (.pointer (some ⟨gt, 0, none⟩)) [2, 3, 11] rfl rfl (by kernel_rfl) (by kernel_rfl) (by kernel_rfl) (by kernel_rfl) (fun _ _ _ h => h) hS (Or.inl ⟨rfl, fun w1 hw1 => by obtain ⟨c0, x1, x2, y0, y1⟩ := (HED.out.fr (hw1 : Fr V8 w1 (fun _ => False)) (fun h => h) (fun h => h)).cells; go_simp⟩) ?_
      simp only [Act.put, List.setIfInBounds_toArray, List.set_cons_zero, List.set_cons_succ]
      refine wpAnyK_takeTo 2 (some 49) (.pointer (some ⟨gt, 2, none⟩)) [3, 11] rfl rfl (by kernel_rfl) (by kernel_rfl) (by kernel_rfl) (by kernel_rfl) (fun _ _ _ h => h) hS (Or.inl ⟨rfl, fun w1 hw1 => by obtain ⟨c0, x1, x2, y0, y1⟩ := (HED.out.fr (hw1 : Fr V8 w1 (fun _ => False)) (fun h => h) (fun h => h)).cells; go_simp⟩) ?_
      simp only [Act.put, List.setIfInBounds_toArray, List.set_cons_zero, List.set_cons_succ]
      refine wpAnyK_takeTo 3 (some 50) (.pointer (some ⟨tb, 0, none⟩)) [11] rfl rfl (by kernel_rfl) (by kernel_rfl) (by kernel_rfl) (by kernel_rfl) (fun _ _ _ h => h) hS (Or.inl ⟨rfl, fun w1 hw1 => by obtain ⟨c0, x1, x2, y0, y1⟩ := (HED.out.fr (hw1 : Fr V8 w1 (fun _ => False)) (fun h => h) (fun h => h)).cells; go_simp⟩) ?_
      simp only [Act.put, List.setIfInBounds_toArray, List.set_cons_zero, List.set_cons_succ]
      refine wpAnyK_takeTo 4 (some 51) (.int .i64 n) [8, 9, 11] rfl rfl (by kernel_rfl) (by kernel_rfl) (by kernel_rfl) (by kernel_rfl) (fun _ _ _ h => h) hS (Or.inl ⟨rfl, fun w1 hw1 => by obtain ⟨c0, x1, x2, y0, y1⟩ := (HED.out.fr (hw1 : Fr V8 w1 (fun _ => False)) (fun h => h) (fun h => h)).cells; go_simp⟩) ?_
      simp only [Act.put, List.setIfInBounds_toArray, List.set_cons_zero, List.set_cons_succ]
      refine wpAnyK_takeTo 5 (some 52) (.pointer (some ⟨g, 1, none⟩)) [6, 8, 9, 11] rfl rfl (by kernel_rfl) (by kernel_rfl) (by kernel_rfl) (by kernel_rfl) (fun _ _ _ h => h) hS (Or.inl ⟨rfl, fun w1 hw1 => by obtain ⟨c0, x1, x2, y0, y1⟩ := (HED.out.fr (hw1 : Fr V8 w1 (fun _ => False)) (fun h => h) (fun h => h)).cells; go_simp⟩) ?_
      simp only [Act.put, List.setIfInBounds_toArray, List.set_cons_zero, List.set_cons_succ]
      refine wpAnyK_takeTo 6 (some 53) (.int .i64 hi) [8, 9, 11] rfl rfl (by kernel_rfl) (by kernel_rfl) (by kernel_rfl) (by kernel_rfl) (fun _ _ _ h => h) hS (Or.inl ⟨rfl, fun w1 hw1 => by obtain ⟨c0, x1, x2, y0, y1⟩ := (HED.out.fr (hw1 : Fr V8 w1 (fun _ => False)) (fun h => h) (fun h => h)).cells; go_simp⟩) ?_
      simp only [Act.put, List.setIfInBounds_toArray, List.set_cons_zero, List.set_cons_succ]
      refine wpAnyK_takeTo 7 (some 54) (.int .i64 id) [8, 9, 11] rfl rfl (by kernel_rfl) (by kernel_rfl) (by kernel_rfl) (by kernel_rfl) (fun _ _ _ h => h) hS (Or.inl ⟨rfl, fun w1 hw1 => by obtain ⟨c0, x1, x2, y0, y1⟩ := (HED.out.fr (hw1 : Fr V8 w1 (fun _ => False)) (fun h => h) (fun h => h)).cells; go_simp⟩) ?_
      simp only [Act.put, List.setIfInBounds_toArray, List.set_cons_zero, List.set_cons_succ]
      refine wpAnyK_takeTo 10 (some 57) (.int .i64 id) [11] rfl rfl (by kernel_rfl) (by kernel_rfl) (by kernel_rfl) (by kernel_rfl) (fun _ _ _ h => h) hS (Or.inl ⟨rfl, fun w1 hw1 => by obtain ⟨c0, x1, x2, y0, y1⟩ := (HED.out.fr (hw1 : Fr V8 w1 (fun _ => False)) (fun h => h) (fun h => h)).cells; go_simp⟩) ?_
      simp only [Act.put, List.setIfInBounds_toArray, List.set_cons_zero, List.set_cons_succ]
      clear hS
      refine wpAnyK_one (i := 8) (by kernel_rfl) rfl rfl ?_
      go_simp
      refine ⟨Fr.alloc _ _ _, ?_⟩
      refine wpAnyK_one (i := 9) (by kernel_rfl) rfl rfl ?_
      refine wp_call_to (some 56) rfl 17 #[.slice (some ⟨V8.heap.size, 0, none⟩) 3 3] (by go_simp) (text3 n hi id V8) ?_
      rintro e W8 ⟨rfl, ft⟩
      refine ⟨_, rfl, fun _ => ft, ?_⟩
      simp only [Act.put, List.setIfInBounds_toArray, List.set_cons_zero, List.set_cons_succ]
      have HFW := hide ((HFD.out.trans ft).mono (Y := fun k => k = gm ∨ TX fb dF k) (fun k _ h => by rcases h with h | h; exact h; exact h.elim))
      have HEW := hide (HED.out.fr ft (fun h => h) (fun h => h))
      have HMW := hide (HMD.out.fr ft (fun h => h))
      have HTFW := hide (HTFD.out.fr ft (fun _ _ h => h))
      have HTTW := hide (HTT0.out.fr HFW.out (fun k hk h => by rcases h with h | h; exact HAP.out.2.2.2.2.1 (by rw [← h]; exact hk); exact HAP.out.2.2.2.2.2 k h hk))
      clear ft HED HFD HMD HTFD
      refine wpAnyK_one (i := 11) (by kernel_rfl) rfl rfl ?_
      refine wp_call_to (some 58) rfl 16 #[.pointer (some ⟨tb, 0, none⟩), .string (txt [n, hi, id]), .int .i64 id] (by go_simp) (HTTW.out.put (by have := HB.out; have := HFW.out.size; omega) (txt [n, hi, id]) id (by have := HBD.out; have := HN.out; omega)) ?_
      rintro e W9 ⟨b9, dT', rfl, -, tT9, cT9, lT9, xT9, f9⟩
      refine ⟨_, rfl, fun h => by simp at h, ?_⟩
      simp only [Act.put, List.setIfInBounds_toArray, List.set_cons_zero, List.set_cons_succ]
      have HRES : Hid (Q (.returned (.int .i64 0)) W9) := hide (by
        rw [HQ.out]
        refine .inr (.inr ⟨HR.out, HNO.out, rfl, ⟨fun k => k = gt ∨ k = gm ∨ TX fb dF' k ∨ TX tb dT' k, ⟨gm, fb, tb, dF', dT', c1, c2, ?_, ?_, ?_, tT9, HCF7.out, ?_, ⟨?_, ?_⟩, ?_, ?_, HBS.out, fun k => Iff.rfl⟩, ?_⟩, ?_⟩)
        · rw [f9.block gt (Array.getElem?_eq_some_iff.1 HEW.out.b).1 HAP.out.2.2.1]; exact HEW.out.b
        · exact HMW.out.fr f9 HAP.out.2.2.2.2.1
        · exact HTFW.out.fr f9 (fun k hk h => by rcases HXF7.out k hk with h2 | h2; exact HAP.out.2.2.2.2.2 k h2 h; (have := HTT0.out.lt k h; omega))
        · exact HCT.out.put (by rw [show keyT ⟨id, lo, hi⟩ = txt [n, hi, id] by unfold keyT; rw [HND.out]]; exact cT9) (fun q hq e => HNO.out q hq (keyT_inj (HIO.out.2 q hq) HOK.out e))
        · exact List.pairwise_append.2 ⟨HIO.out.1, List.pairwise_singleton _ _, fun a ha b hb => by rw [List.mem_singleton] at hb; subst hb; exact HNO.out a ha⟩
        · intro p hp
          rcases List.mem_append.1 hp with hp | hp
          · exact HIO.out.2 p hp
          · rw [List.mem_singleton] at hp; subst hp; exact HOK.out
        · have := HBD.out; have := HLF7.out; simp only [List.length_append, List.length_singleton]; omega
        · have hgw := HGW.out
          have hmw := HM0.out.mf.lt
          have hsz : w.heap.size ≤ W8.heap.size := HFW.out.size
          refine ⟨HAP.out.1, fun h => ?_, fun h => ?_, fun h => ?_, fun h => ?_, fun k h1 h2 => ?_⟩
          · rcases HXF7.out _ h with h2 | h2; exact HAP.out.2.1 h2; omega
          · rcases xT9 _ h with h2 | h2; exact HAP.out.2.2.1 h2; omega
          · rcases HXF7.out _ h with h2 | h2; exact HAP.out.2.2.2.1 h2; omega
          · rcases xT9 _ h with h2 | h2; exact HAP.out.2.2.2.2.1 h2; omega
          · have hk7 := HTFW.out.lt k h1
            rcases xT9 _ h2 with h3 | h3
            · rcases HXF7.out _ h1 with h4 | h4
              · exact HAP.out.2.2.2.2.2 k h4 h3
              · have := HTT0.out.lt k h3; omega
            · omega
        · rintro k (rfl | rfl | hk | hk)
          · exact .inl ((HX.out _).2 (.inl rfl))
          · exact .inl ((HX.out _).2 (.inr (.inl rfl)))
          · exact (HXF7.out k hk).imp (fun h => (HX.out k).2 (.inr (.inr (.inl h)))) (fun h => h)
          · have hsz : w.heap.size ≤ W8.heap.size := HFW.out.size
            exact (xT9 k hk).imp (fun h => (HX.out k).2 (.inr (.inr (.inr h)))) (fun h => by omega)
        · refine (HFW.out.trans f9).mono (fun k _ h => (HX.out k).2 ?_)
          rcases h with (h | h) | h
          · exact .inr (.inl h)
          · exact .inr (.inr (.inl h))
          · exact .inr (.inr (.inr h)))
      clear tT9 cT9 lT9 xT9 f9
      refine wpAnyK_done (by kernel_rfl) ?_ _
      go_wp2
      first | exact HRES.out | (go_ret; exact HRES.out)


  · have hr' : rightB ⟨lo, hi⟩ = false := by simpa using hr
    have hcode := codeP_no _ hr'
    rw [hcode]
    have HRES : Hid (Q (.returned (.int .i64 40)) w2) := hide (by
      rw [HQ.out]
      exact .inl ⟨hr', rfl, HF2.out⟩)
    clear hr hr' hcode
    go_wp2
    first | exact HRES.out | (go_ret; exact HRES.out)
end Go.Proofs.YtigkinakhijfoaaGreat
