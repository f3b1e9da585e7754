/- Cut. -/
import Derived.Test.YtigkinakhijfoaaGreatHd
namespace Go.Proofs.YtigkinakhijfoaaGreat
open Go.RowKit
set_option maxRecDepth 100000
set_option linter.unusedVariables false
set_option linter.unusedSimpArgs false

/-- What Cut leaves. -/
def CutP (w : World) (base gt N : Nat) (L : List Itm) (X : Nat → Prop) (id : Int) (e : Ending) (w' : World) : Prop :=
  ((∀ q ∈ L, q.id ≠ id) ∧ e = .returned (.int .i64 4) ∧ Fr w w' (fun _ => False)) ∨
  ((∃ q ∈ L, q.id = id) ∧ e = .returned (.int .i64 0) ∧ (∃ X' : Nat → Prop, RT w' base gt N (without L id) X' ∧ ∀ k, X' k → X k ∨ w.heap.size ≤ k) ∧ Fr w w' X)
set_option maxHeartbeats 4000000 in
theorem rcut_any {w : World} {base gt N : Nat} {L : List Itm} {X : Nat → Prop} (h : RT w base gt N L X) (id : Int) (hid : In64 id) (hN : N ≤ 1099511627776) (hb : base ≤ w.heap.size) :
    Calls Tryz.prog 7 #[.pointer (some ⟨gt, 0, none⟩), .int .i64 id] w (CutP w base gt N L X id) := by
  have hXlt := h.lt
  obtain ⟨gm, fb, tb, dF, dT, c1, c2, h1, h2, h3, h4, h5, h6, h7, h8, h9, h10, h11⟩ := h
  obtain ⟨Q, hQ⟩ : ∃ Q, Q = CutP w base gt N L X id := ⟨_, rfl⟩
  rw [← hQ]
  have hgtw := (Array.getElem?_eq_some_iff.1 h1).1
  have HXL := hide hXlt
  have HQ := hide hQ
  have HM0 := hide h2
  have HTF0 := hide h3
  have HTT0 := hide h4
  have HCF := hide h5
  have HCT := hide h6
  have HIO := hide h7
  have HBD := hide h8
  have HAP := hide h9
  have HBS := hide h10
  have HX := hide h11
  have HGW := hide hgtw
  have HID := hide hid
  have HN := hide hN
  have HB := hide hb
  have c0 : w.cell? ⟨gt, 0, none⟩ = some (.map (some gm)) := (cell_of_row _ _ _ _ _ _ h1).trans rfl
  have HROW := hide h1
  clear hXlt hQ h1 h2 h3 h4 h5 h6 h7 h8 h9 h10 h11 hgtw hid hN hb
  by_cases hth : ∃ q ∈ L, q.id = id
  · obtain ⟨q, hq, hqi⟩ := hth
    have hpx : px L id = some q.per := by rw [← hqi]; exact px_some HIO.out.1 hq
    have hlk := HM0.out.mf.look_ok (x := id) HID.out
    rw [hpx] at hlk
    obtain ⟨lo, hlo⟩ : ∃ lo, lo = q.lo := ⟨_, rfl⟩
    obtain ⟨hi, hhi⟩ : ∃ hi, hi = q.hi := ⟨_, rfl⟩
    have hlk : (Instr.lookup 48 (.map (some gm)) (.int .i64 id) true).run Tryz.prog w = .ok (.tuple #[.agg #[.int .i64 lo, .int .i64 hi], .bool true]) w := by rw [hlo, hhi]; exact hlk
    have hqe : q = ⟨id, lo, hi⟩ := by cases q; simp only at hqi hlo hhi; subst hqi hlo hhi; rfl
    have hok : Itm.Ok ⟨id, lo, hi⟩ := by rw [← hqe]; exact HIO.out.2 q hq
    obtain ⟨n, hn⟩ : ∃ n : Int, n = nd ⟨id, lo, hi⟩ := ⟨_, rfl⟩
    have hr : rightB ⟨lo, hi⟩ = true := (rightB_iff _).2 ⟨hok.1, hok.2.1, hok.2.2.1⟩
    have hfa : ∀ V : World, Calls Tryz.prog 15 #[.agg #[.int .i64 lo, .int .i64 hi]] V fun e w' => e = .returned (.tuple #[.int .i64 n, .int .i64 0]) ∧ Fr V w' (fun _ => False) := fun V => by
      have := fork_any ⟨lo, hi⟩ V
      rw [codeP_ok _ hr, forkV_ok hr] at this
      rw [hn]
      exact this
    have HND : Hid (nd ⟨id, lo, hi⟩ = n) := hide hn.symm
    have HOK := hide hok
    have HFA := hide hfa
    have HQL : Hid (Itm.mk id lo hi ∈ L) := hide (by rw [← hqe]; exact hq)
    have HEX : Hid (∃ q ∈ L, q.id = id) := hide ⟨q, hq, hqi⟩
    have HPX : Hid (px L id = some ⟨lo, hi⟩) := hide (by rw [hpx, hqe]; rfl)
    obtain ⟨g, hg⟩ : ∃ g, g = w.heap.size := ⟨_, rfl⟩
    obtain ⟨w1, hw1⟩ : ∃ w1, w1 = w.alloc (.cells #[.int .i64 lo, .int .i64 hi] 24) := ⟨_, rfl⟩
    have f1 : Fr w w1 (fun _ => False) := by rw [hw1]; exact Fr.alloc w _ _
    have HE1 : Hid (EnvA w1 gt gm fb tb g lo hi) := hide ⟨by rw [f1.block gt HGW.out (fun h => h)]; exact HROW.out, by rw [hw1, hg]; exact two_of (heap_alloc_new w _), by rw [hw1, hg]; simp⟩
    have HF1 := hide f1
    have HG := hide hg
    have HW := hide hw1
    obtain ⟨-, -, -, y0, y1⟩ := HE1.out.cells
    clear hpx hlo hhi hqe hok hn hr hfa hq hqi hg hw1 f1
    go_enter Tryz.func7, Tryz.ntmps7
    go_wp2_with fail
    rw [← HW.out, ← HG.out]
    clear HW
    refine (HFA.out w1).mono ?_
    rintro e w2 ⟨rfl, f2⟩
    have HE2 := hide (HE1.out.fr f2 (fun h => h) (fun h => h))
    have HF2 := hide ((HF1.out.trans f2).mono (Y := fun _ => False) (by simp))
    have HM2 := hide (HM0.out.fr HF2.out (fun h => h))
    obtain ⟨U5, hup, hm5, f5⟩ := HM2.out.del HID.out HPX.out 0
    have HM5 : Hid (MapN U5 gm (without L id).length (px (without L id))) := hide (by rw [px_without, without_length HIO.out.1 HQL.out]; exact hm5)
    have hgg : g ≠ gm := by have := HM0.out.mf.lt; have := HG.out; omega
    have HE5 := hide (HE2.out.fr f5 (fun h => HAP.out.1 h) hgg)
    have HF5 := hide ((HF2.out.trans f5).mono (Y := fun k => k = gm) (fun k _ h => by rcases h with h | h; exact h.elim; exact h))
    obtain ⟨c1', -, -, -, -⟩ := HE2.out.cells
    clear f2 hm5 f5 HM2 HE1 HF1 hgg c0 y0 y1 hlk HFA
    go_wp2_with fail
    clear hup c1' HE2 HF2
    refine wp_region_K (fun z => decide (z < 10)) (fun U : World => Fr U5.drew U (fun _ => False)) (by kernel_rfl) ?_
    have D := Fr.drew U5 (fun _ => False)
    have HED := hide (HE5.out.fr D (fun h => h) (fun h => h))
    have HFD := hide ((HF5.out.trans D).mono (Y := fun k => k = gm) (fun k _ h => by rcases h with h | h; exact h; exact h.elim))
    have HMD := hide (HM5.out.fr D (fun h => h))
    clear HF5 HM5
    clear D HE5
    generalize hVV : U5.drew = V6 at *
    clear hVV
    have hS : (fun U : World => Fr V6 U (fun _ => False)) V6 := Fr.refl _ _
    refine wpAnyK_takeTo 0 (some 30) (.pointer (some ⟨gt, 0, none⟩)) [1, 2, 3, 10] rfl rfl (by kernel_rfl) (by kernel_rfl) (by kernel_rfl) (by kernel_rfl) (fun _ _ _ h => h) hS (Or.inl ⟨rfl, fun w1 hw1 => by obtain ⟨c0, x1, x2, y0, y1⟩ := (HED.out.fr (hw1 : Fr V6 w1 (fun _ => False)) (fun h => h) (fun h => h)).cells; go_simp⟩) ?_
    simp only [Act.put, List.setIfInBounds_toArray, List.set_cons_zero, List.set_cons_succ]
    refine wpAnyK_takeTo 1 (some 31) (.pointer (some ⟨gt, 0, none⟩)) [2, 3, 10] rfl rfl (by kernel_rfl) (by kernel_rfl) (by kernel_rfl) (by kernel_rfl) (fun _ _ _ h => h) hS (Or.inl ⟨rfl, fun w1 hw1 => by obtain ⟨c0, x1, x2, y0, y1⟩ := (HED.out.fr (hw1 : Fr V6 w1 (fun _ => False)) (fun h => h) (fun h => h)).cells; go_simp⟩) ?_
    simp only [Act.put, List.setIfInBounds_toArray, List.set_cons_zero, List.set_cons_succ]
    refine wpAnyK_takeTo 2 (some 32) (.pointer (some ⟨gt, 1, none⟩)) [3, 10] rfl rfl (by kernel_rfl) (by kernel_rfl) (by kernel_rfl) (by kernel_rfl) (fun _ _ _ h => h) hS (Or.inl ⟨rfl, fun w1 hw1 => by obtain ⟨c0, x1, x2, y0, y1⟩ := (HED.out.fr (hw1 : Fr V6 w1 (fun _ => False)) (fun h => h) (fun h => h)).cells; go_simp⟩) ?_
    simp only [Act.put, List.setIfInBounds_toArray, List.set_cons_zero, List.set_cons_succ]
    refine wpAnyK_takeTo 3 (some 33) (.pointer (some ⟨fb, 0, none⟩)) [10] rfl rfl (by kernel_rfl) (by kernel_rfl) (by kernel_rfl) (by kernel_rfl) (fun _ _ _ h => h) hS (Or.inl ⟨rfl, fun w1 hw1 => by obtain ⟨c0, x1, x2, y0, y1⟩ := (HED.out.fr (hw1 : Fr V6 w1 (fun _ => False)) (fun h => h) (fun h => h)).cells; go_simp⟩) ?_
    simp only [Act.put, List.setIfInBounds_toArray, List.set_cons_zero, List.set_cons_succ]
    refine wpAnyK_takeTo 4 (some 34) (.int .i64 n) [8, 9, 10] rfl rfl (by kernel_rfl) (by kernel_rfl) (by kernel_rfl) (by kernel_rfl) (fun _ _ _ h => h) hS (Or.inl ⟨rfl, fun w1 hw1 => by obtain ⟨c0, x1, x2, y0, y1⟩ := (HED.out.fr (hw1 : Fr V6 w1 (fun _ => False)) (fun h => h) (fun h => h)).cells; go_simp⟩) ?_
    simp only [Act.put, List.setIfInBounds_toArray, List.set_cons_zero, List.set_cons_succ]
    refine wpAnyK_takeTo 5 (some 35) (.pointer (some ⟨g, 0, none⟩)) [6, 8, 9, 10] rfl rfl (by kernel_rfl) (by kernel_rfl) (by kernel_rfl) (by kernel_rfl) (fun _ _ _ h => h) hS (Or.inl ⟨rfl, fun w1 hw1 => by obtain ⟨c0, x1, x2, y0, y1⟩ := (HED.out.fr (hw1 : Fr V6 w1 (fun _ => False)) (fun h => h) (fun h => h)).cells; go_simp⟩) ?_
    simp only [Act.put, List.setIfInBounds_toArray, List.set_cons_zero, List.set_cons_succ]
    refine wpAnyK_takeTo 6 (some 36) (.int .i64 lo) [8, 9, 10] rfl rfl (by kernel_rfl) (by kernel_rfl) (by kernel_rfl) (by kernel_rfl) (fun _ _ _ h => h) hS (Or.inl ⟨rfl, fun w1 hw1 => by obtain ⟨c0, x1, x2, y0, y1⟩ := (HED.out.fr (hw1 : Fr V6 w1 (fun _ => False)) (fun h => h) (fun h => h)).cells; go_simp⟩) ?_
    simp only [Act.put, List.setIfInBounds_toArray, List.set_cons_zero, List.set_cons_succ]
    refine wpAnyK_takeTo 7 (some 37) (.int .i64 id) [8, 9, 10] rfl rfl (by kernel_rfl) (by kernel_rfl) (by kernel_rfl) (by kernel_rfl) (fun _ _ _ h => h) hS (Or.inl ⟨rfl, fun w1 hw1 => by obtain ⟨c0, x1, x2, y0, y1⟩ := (HED.out.fr (hw1 : Fr V6 w1 (fun _ => False)) (fun h => h) (fun h => h)).cells; go_simp⟩) ?_
    simp only [Act.put, List.setIfInBounds_toArray, List.set_cons_zero, List.set_cons_succ]
    clear hS
    refine wpAnyK_one (i := 8) (by kernel_rfl) rfl rfl ?_
    go_simp
    refine ⟨Fr.alloc _ _ _, ?_⟩
    refine wpAnyK_one (i := 9) (by kernel_rfl) rfl rfl ?_
    refine wp_call_to (some 39) rfl 17 #[.slice (some ⟨V6.heap.size, 0, none⟩) 3 3] (by go_simp) (text3 n lo id V6) ?_
    rintro e W6 ⟨rfl, ft⟩
    refine ⟨_, rfl, fun _ => ft, ?_⟩
    simp only [Act.put, List.setIfInBounds_toArray, List.set_cons_zero, List.set_cons_succ]
    have HEW := hide (HED.out.fr ft (fun h => h) (fun h => h))
    have HFW := hide ((HFD.out.trans ft).mono (Y := fun k => k = gm) (fun k _ h => by rcases h with h | h; exact h; exact h.elim))
    have HMW := hide (HMD.out.fr ft (fun h => h))
    have HTFW := hide (HTF0.out.fr HFW.out (fun k hk h => HAP.out.2.2.2.1 (by rw [← h]; exact hk)))
    clear ft HED HFD HMD
    refine wpAnyK_one (i := 10) (by kernel_rfl) rfl rfl ?_
    refine wp_call_to (some 40) rfl 18 #[.pointer (some ⟨fb, 0, none⟩), .string (txt [n, lo, id])] (by go_simp) (HTFW.out.cut (by have := HB.out; have := HFW.out.size; omega) (txt [n, lo, id]) (by have := HBD.out; have := HN.out; omega)) ?_
    rintro e W7 ⟨b7, dF', rfl, -, tF7, cF7, lF7, xF7, f7⟩
    refine ⟨_, rfl, fun h => by simp at h, ?_⟩
    simp only [Act.put, List.setIfInBounds_toArray, List.set_cons_zero, List.set_cons_succ]
    have hfg : ¬ TX fb dF g := fun h => by have := HTF0.out.lt g h; have := HG.out; omega
    have HE7 := hide (HEW.out.fr f7 HAP.out.2.1 hfg)
    have HM7 := hide (HMW.out.fr f7 HAP.out.2.2.2.1)
    have HTF7 := hide tF7
    have HCF7 : Hid (Con keyF dF'.F (without L id)) := hide (HCF.out.cut (p := Itm.mk id lo hi) (by rw [show keyF ⟨id, lo, hi⟩ = txt [n, lo, id] by unfold keyF; rw [HND.out]]; exact cF7) HIO.out.1 HQL.out (fun q hq e => keyF_inj (HIO.out.2 q hq) HOK.out e))
    have HXF7 : Hid (∀ k, TX fb dF' k → TX fb dF k ∨ w.heap.size ≤ k) := hide (fun k hk => (xF7 k hk).imp (fun h => h) (fun h => by have := HFW.out.size; omega))
    have HF7 := hide (HFW.out.trans f7)
    have HLF7 := hide lF7
    clear tF7 cF7 lF7 xF7 f7 HEW HFW HMW HTFW hfg
    refine wpAnyK_done (by kernel_rfl) ?_ _
    go_wp2_with fail
    refine wp_region_K (fun z => decide (z < 10)) (fun U : World => Fr W7.drew U (fun _ => False)) (by kernel_rfl) ?_
    have D := Fr.drew W7 (fun _ => False)
    have HED := hide (HE7.out.fr D (fun h => h) (fun h => h))
    have HFD := hide ((HF7.out.trans D).mono (Y := fun k => k = gm ∨ TX fb dF k) (fun k _ h => by rcases h with h | h; exact h; exact h.elim))
    have HMD := hide (HM7.out.fr D (fun h => h))
    have HTFD := hide (HTF7.out.fr D (fun _ _ h => h))
    clear HF7 HM7 HTF7
    clear D HE7
    generalize hVV : W7.drew = V8 at *
    clear hVV
    have hS : (fun U : World => Fr V8 U (fun _ => False)) V8 := Fr.refl _ _
    refine wpAnyK_takeTo 0 (some 41) (.pointer (some ⟨gt, 0, none⟩)) [1, 2, 3, 10] rfl rfl (by kernel_rfl) (by kernel_rfl) (by kernel_rfl) (by kernel_rfl) (fun _ _ _ h => h) hS (Or.inl ⟨rfl, fun w1 hw1 => by obtain ⟨c0, x1, x2, y0, y1⟩ := (HED.out.fr (hw1 : Fr V8 w1 (fun _ => False)) (fun h => h) (fun h => h)).cells; go_simp⟩) ?_
    simp only [Act.put, List.setIfInBounds_toArray, List.set_cons_zero, List.set_cons_succ]
    refine wpAnyK_takeTo 1 (some 42) (.pointer (some ⟨gt, 0, none⟩)) [2, 3, 10] rfl rfl (by kernel_rfl) (by kernel_rfl) (by kernel_rfl) (by kernel_rfl) (fun _ _ _ h => h) hS (Or.inl ⟨rfl, fun w1 hw1 => by obtain ⟨c0, x1, x2, y0, y1⟩ := (HED.out.fr (hw1 : Fr V8 w1 (fun _ => False)) (fun h => h) (fun h => h)).cells; go_simp⟩) ?_
    simp only [Act.put, List.setIfInBounds_toArray, List.set_cons_zero, List.set_cons_succ]
    refine wpAnyK_takeTo 2 (some 43) (.pointer (some ⟨gt, 2, none⟩)) [3, 10] rfl rfl (by kernel_rfl) (by kernel_rfl) (by kernel_rfl) (by kernel_rfl) (fun _ _ _ h => h) hS (Or.inl ⟨rfl, fun w1 hw1 => by obtain ⟨c0, x1, x2, y0, y1⟩ := (HED.out.fr (hw1 : Fr V8 w1 (fun _ => False)) (fun h => h) (fun h => h)).cells; go_simp⟩) ?_
    simp only [Act.put, List.setIfInBounds_toArray, List.set_cons_zero, List.set_cons_succ]
    refine wpAnyK_takeTo 3 (some 44) (.pointer (some ⟨tb, 0, none⟩)) [10] rfl rfl (by kernel_rfl) (by kernel_rfl) (by kernel_rfl) (by kernel_rfl) (fun _ _ _ h => h) hS (Or.inl ⟨rfl, fun w1 hw1 => by obtain ⟨c0, x1, x2, y0, y1⟩ := (HED.out.fr (hw1 : Fr V8 w1 (fun _ => False)) (fun h => h) (fun h => h)).cells; go_simp⟩) ?_
    simp only [Act.put, List.setIfInBounds_toArray, List.set_cons_zero, List.set_cons_succ]
    refine wpAnyK_takeTo 4 (some 45) (.int .i64 n) [8, 9, 10] rfl rfl (by kernel_rfl) (by kernel_rfl) (by kernel_rfl) (by kernel_rfl) (fun _ _ _ h => h) hS (Or.inl ⟨rfl, fun w1 hw1 => by obtain ⟨c0, x1, x2, y0, y1⟩ := (HED.out.fr (hw1 : Fr V8 w1 (fun _ => False)) (fun h => h) (fun h => h)).cells; go_simp⟩) ?_
    simp only [Act.put, List.setIfInBounds_toArray, List.set_cons_zero, List.set_cons_succ]
    refine wpAnyK_takeTo 5 (some 46) (.pointer (some ⟨g, 1, none⟩)) [6, 8, 9, 10] rfl rfl (by kernel_rfl) (by kernel_rfl) (by kernel_rfl) (by kernel_rfl) (fun _ _ _ h => h) hS (Or.inl ⟨rfl, fun w1 hw1 => by obtain ⟨c0, x1, x2, y0, y1⟩ := (HED.out.fr (hw1 : Fr V8 w1 (fun _ => False)) (fun h => h) (fun h => h)).cells; go_simp⟩) ?_
    simp only [Act.put, List.setIfInBounds_toArray, List.set_cons_zero, List.set_cons_succ]
    refine wpAnyK_takeTo 6 (some 47) (.int .i64 hi) [8, 9, 10] rfl rfl (by kernel_rfl) (by kernel_rfl) (by kernel_rfl) (by kernel_rfl) (fun _ _ _ h => h) hS (Or.inl ⟨rfl, fun w1 hw1 => by obtain ⟨c0, x1, x2, y0, y1⟩ := (HED.out.fr (hw1 : Fr V8 w1 (fun _ => False)) (fun h => h) (fun h => h)).cells; go_simp⟩) ?_
    simp only [Act.put, List.setIfInBounds_toArray, List.set_cons_zero, List.set_cons_succ]
    refine wpAnyK_takeTo 7 (some 48) (.int .i64 id) [8, 9, 10] rfl rfl (by kernel_rfl) (by kernel_rfl) (by kernel_rfl) (by kernel_rfl) (fun _ _ _ h => h) hS (Or.inl ⟨rfl, fun w1 hw1 => by obtain ⟨c0, x1, x2, y0, y1⟩ := (HED.out.fr (hw1 : Fr V8 w1 (fun _ => False)) (fun h => h) (fun h => h)).cells; go_simp⟩) ?_
    simp only [Act.put, List.setIfInBounds_toArray, List.set_cons_zero, List.set_cons_succ]
    clear hS
    refine wpAnyK_one (i := 8) (by kernel_rfl) rfl rfl ?_
    go_simp
    refine ⟨Fr.alloc _ _ _, ?_⟩
    refine wpAnyK_one (i := 9) (by kernel_rfl) rfl rfl ?_
    refine wp_call_to (some 50) rfl 17 #[.slice (some ⟨V8.heap.size, 0, none⟩) 3 3] (by go_simp) (text3 n hi id V8) ?_
    rintro e W8 ⟨rfl, ft⟩
    refine ⟨_, rfl, fun _ => ft, ?_⟩
    simp only [Act.put, List.setIfInBounds_toArray, List.set_cons_zero, List.set_cons_succ]
    have HFW := hide ((HFD.out.trans ft).mono (Y := fun k => k = gm ∨ TX fb dF k) (fun k _ h => by rcases h with h | h; exact h; exact h.elim))
    have HEW := hide (HED.out.fr ft (fun h => h) (fun h => h))
    have HMW := hide (HMD.out.fr ft (fun h => h))
    have HTFW := hide (HTFD.out.fr ft (fun _ _ h => h))
    have HTTW := hide (HTT0.out.fr HFW.out (fun k hk h => by rcases h with h | h; exact HAP.out.2.2.2.2.1 (by rw [← h]; exact hk); exact HAP.out.2.2.2.2.2 k h hk))
    clear ft HED HFD HMD HTFD
    refine wpAnyK_one (i := 10) (by kernel_rfl) rfl rfl ?_
    refine wp_call_to (some 51) rfl 18 #[.pointer (some ⟨tb, 0, none⟩), .string (txt [n, hi, id])] (by go_simp) (HTTW.out.cut (by have := HB.out; have := HFW.out.size; omega) (txt [n, hi, id]) (by have := HBD.out; have := HN.out; omega)) ?_
    rintro e W9 ⟨b9, dT', rfl, -, tT9, cT9, lT9, xT9, f9⟩
    refine ⟨_, rfl, fun h => by simp at h, ?_⟩
    simp only [Act.put, List.setIfInBounds_toArray, List.set_cons_zero, List.set_cons_succ]
    have HRES : Hid (Q (.returned (.int .i64 0)) W9) := hide (by
      rw [HQ.out]
      refine .inr ⟨HEX.out, rfl, ⟨fun k => k = gt ∨ k = gm ∨ TX fb dF' k ∨ TX tb dT' k, ⟨gm, fb, tb, dF', dT', c1, c2, ?_, ?_, ?_, tT9, HCF7.out, ?_, ⟨?_, ?_⟩, ?_, ?_, HBS.out, fun k => Iff.rfl⟩, ?_⟩, ?_⟩
      · rw [f9.block gt (Array.getElem?_eq_some_iff.1 HEW.out.b).1 HAP.out.2.2.1]; exact HEW.out.b
      · exact HMW.out.fr f9 HAP.out.2.2.2.2.1
      · exact HTFW.out.fr f9 (fun k hk h => by rcases HXF7.out k hk with h2 | h2; exact HAP.out.2.2.2.2.2 k h2 h; (have := HTT0.out.lt k h; omega))
      · exact HCT.out.cut (p := Itm.mk id lo hi) (by rw [show keyT ⟨id, lo, hi⟩ = txt [n, hi, id] by unfold keyT; rw [HND.out]]; exact cT9) HIO.out.1 HQL.out (fun q hq e => keyT_inj (HIO.out.2 q hq) HOK.out e)
      · exact HIO.out.1.sublist List.filter_sublist
      · intro p hp
        exact HIO.out.2 p (List.mem_filter.1 hp).1
      · have := HBD.out; have := HLF7.out; have hw := without_length HIO.out.1 HQL.out; simp only at hw; omega
      · have hgw := HGW.out
        have hmw := HM0.out.mf.lt
        have hsz : w.heap.size ≤ W8.heap.size := HFW.out.size
        refine ⟨HAP.out.1, fun h => ?_, fun h => ?_, fun h => ?_, fun h => ?_, fun k h1 h2 => ?_⟩
        · rcases HXF7.out _ h with h2 | h2; exact HAP.out.2.1 h2; omega
        · rcases xT9 _ h with h2 | h2; exact HAP.out.2.2.1 h2; omega
        · rcases HXF7.out _ h with h2 | h2; exact HAP.out.2.2.2.1 h2; omega
        · rcases xT9 _ h with h2 | h2; exact HAP.out.2.2.2.2.1 h2; omega
        · have hk7 := HTFW.out.lt k h1
          rcases xT9 _ h2 with h3 | h3
          · rcases HXF7.out _ h1 with h4 | h4
            · exact HAP.out.2.2.2.2.2 k h4 h3
            · have := HTT0.out.lt k h3; omega
          · omega
      · rintro k (rfl | rfl | hk | hk)
        · exact .inl ((HX.out _).2 (.inl rfl))
        · exact .inl ((HX.out _).2 (.inr (.inl rfl)))
        · exact (HXF7.out k hk).imp (fun h => (HX.out k).2 (.inr (.inr (.inl h)))) (fun h => h)
        · have hsz : w.heap.size ≤ W8.heap.size := HFW.out.size
          exact (xT9 k hk).imp (fun h => (HX.out k).2 (.inr (.inr (.inr h)))) (fun h => by omega)
      · refine (HFW.out.trans f9).mono (fun k _ h => (HX.out k).2 ?_)
        rcases h with (h | h) | h
        · exact .inr (.inl h)
        · exact .inr (.inr (.inl h))
        · exact .inr (.inr (.inr h)))
    clear tT9 cT9 lT9 xT9 f9
    refine wpAnyK_done (by kernel_rfl) ?_ _
    go_wp2
    first | exact HRES.out | (go_ret; exact HRES.out)


  · have hno : ∀ q ∈ L, q.id ≠ id := fun q hq e => hth ⟨q, hq, e⟩
    have hlk := HM0.out.mf.look_ok (x := id) HID.out
    rw [px_none hno] at hlk
    have hlk : (Instr.lookup 48 (.map (some gm)) (.int .i64 id) true).run Tryz.prog w = .ok (.tuple #[.agg #[.int .i64 0, .int .i64 0], .bool false]) w := hlk
    have HRES : Hid (Q (.returned (.int .i64 4)) (w.alloc (.cells #[.int .i64 0, .int .i64 0] 24))) := hide (by
      rw [HQ.out]
      exact .inl ⟨hno, rfl, Fr.alloc w _ _⟩)
    clear hno hth
    go_enter Tryz.func7, Tryz.ntmps7
    go_wp2
    first | exact HRES.out | (go_ret; exact HRES.out)
end Go.Proofs.YtigkinakhijfoaaGreat
