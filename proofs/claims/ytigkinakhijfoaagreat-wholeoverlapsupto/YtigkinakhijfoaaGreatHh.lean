/- Overlap. -/
import Derived.Test.YtigkinakhijfoaaGreatHg
namespace Go.Proofs.YtigkinakhijfoaaGreat
open Go.RowKit Go.Shelf
set_option maxRecDepth 100000
set_option linter.unusedVariables false
set_option linter.unusedSimpArgs false

section
variable {P : Program} {ops : Array Oper} {Q : Exit → Act → World → Prop} {md : Region.Mode} {S : World → Prop} {hold : Nat → Bool}
/-- Two operations that are ready. -/
theorem wpAnyK_two {i j : Nat} {oi oj : Oper} {fuel : Nat} {listed : Array Bool} {a : Act} {w : World} (hr : Region.ready md ops listed = [i, j]) (hi : ops[i]? = some oi) (hj : ops[j]? = some oj) (hgi : oi.guard = none) (hgj : oj.guard = none)
    (h1 : Oper.wp P oi a w (fun a' w' => (hold i = true → S w') ∧ wpAnyK P md ops Q hold S fuel (listed.setIfInBounds i true) a' w') Q)
    (h2 : Oper.wp P oj a w (fun a' w' => (hold j = true → S w') ∧ wpAnyK P md ops Q hold S fuel (listed.setIfInBounds j true) a' w') Q) : wpAnyK P md ops Q hold S (fuel + 1) listed a w := by
  refine ⟨fun h0 => (by rw [hr] at h0; cases h0), fun k hk => ?_⟩
  rw [hr] at hk
  rcases List.mem_cons.1 hk with rfl | hk
  · unfold wpOp
    have gi : Region.wanted oi (yielded ops a.tmps) = true := by simp [Region.wanted, hgi]
    simp only [hi, gi, if_true]
    exact .inl h1
  · obtain rfl : k = j := by simpa using hk
    unfold wpOp
    have gj : Region.wanted oj (yielded ops a.tmps) = true := by simp [Region.wanted, hgj]
    simp only [hj, gj, if_true]
    exact .inl h2
theorem region_key {n : Nat} {l : Array Bool} {a : Act} {w : World} (R : Act → Act → World → Prop) (h2 : ∀ b v, R a b v → Q .normal b v) (h1 : (∀ b v, R a b v → Q .normal b v) → wpAnyK P md ops Q hold S n l a w) : wpAnyK P md ops Q hold S n l a w := h1 h2
end
theorem flat_take {α β : Type} (f : α → List β) (L : List α) (i : Nat) (x : α) (h : L[i]? = some x) : (L.take (i + 1)).flatMap f = (L.take i).flatMap f ++ f x := by
  rw [List.take_add_one, h, List.flatMap_append]
  simp
theorem idsR_len (fr to : ByteArray) (F : List It) : (idsR fr to F).length ≤ F.length := by
  unfold idsR
  rw [List.length_map]
  exact List.length_filter_le ..
theorem left_range {q : Per} (hq : rightB q = true) {m : Int} (hm : m ∈ lefts q) : 0 ≤ m ∧ m ≤ 1099511627776 := by
  obtain ⟨h1, h2, h3⟩ := (rightB_iff q).1 hq
  obtain ⟨n, hn, rfl, _⟩ := (mem_lefts hq).1 hm
  have := ancs_le (x := q.lo.toNat) (by omega) hn
  omega
theorem right_range {q : Per} (hq : rightB q = true) {m : Int} (hm : m ∈ rights q) : 0 ≤ m ∧ m ≤ 1099511627776 := by
  obtain ⟨h1, h2, h3⟩ := (rightB_iff q).1 hq
  obtain ⟨n, hn, rfl, _⟩ := (mem_rights hq).1 hm
  have := ancs_le (x := (q.hi - 1).toNat) (by omega) hn
  omega
/-- What a range to the left tells, and to the right. -/
def gT (lo : Int) (T : List It) (m : Int) : List Int := idsR (txt [m, lo + 1]) (txt [m + 1]) T
def gF (hi : Int) (F : List It) (m : Int) : List Int := idsR (txt [m]) (txt [m, hi]) F
theorem gath_eq (q : Per) (F T : List It) : gath q F T = (lefts q).flatMap (gT q.lo T) ++ (idsR (txt [q.lo]) (txt [q.hi]) F ++ (rights q).flatMap (gF q.hi F)) := rfl
set_option maxHeartbeats 16000000 in
theorem roverlap_any {w : World} {base gt N : Nat} {L : List Itm} {X : Nat → Prop} (h : RT w base gt N L X) (lo hi : Int) (hN : N ≤ 17179869184) (hbw : base ≤ w.heap.size) :
    Calls Tryz.prog 11 #[.pointer (some ⟨gt, 0, none⟩), .agg #[.int .i64 lo, .int .i64 hi]] w (OverQ w base gt N L X ⟨lo, hi⟩) := by
  have HRT := hide h
  obtain ⟨Q, hQ⟩ : ∃ Q, Q = OverQ w base gt N L X ⟨lo, hi⟩ := ⟨_, rfl⟩
  rw [← hQ]
  have HQ := hide hQ
  obtain ⟨g, hg⟩ : ∃ g, g = w.heap.size := ⟨_, rfl⟩
  obtain ⟨w1, hw1⟩ : ∃ w1, w1 = w.alloc (.cells #[.int .i64 lo, .int .i64 hi] 24) := ⟨_, rfl⟩
  have f1 : Fr w w1 (fun _ => False) := by rw [hw1]; exact Fr.alloc w _ _
  have b1 : Two w1 g (.int .i64 lo) (.int .i64 hi) := by rw [hw1, hg]; exact two_of (heap_alloc_new w _)
  have hl1 : w1.heap.size = g + 1 := by rw [hw1, hg]; simp
  have HC : Hid (Calls Tryz.prog 21 #[.agg #[.int .i64 lo, .int .i64 hi]] w1 (NodesQ ⟨lo, hi⟩ w1)) := hide (nodes_any ⟨lo, hi⟩ w1)
  have HF1 := hide f1
  have HB1 := hide b1
  have HW := hide hw1
  have HG := hide hg
  have HL1 := hide hl1
  have HN := hide hN
  have HBW := hide hbw
  have d0 := b1.1
  have d1 := b1.2.1
  have enters : ∀ args V, (callFunc 22 args).run Tryz.prog V = .ok (.enter 22 args) V := enters_of Tryz.func22 (by kernel_rfl) rfl
  clear f1 b1 hw1 hg hl1 h hQ hN hbw
  go_enter Tryz.func11, Tryz.ntmps11
  go_wp2_with (rw [← HW.out, ← HG.out]; clear HW)
  refine HC.out.mono ?_
  rintro e W2 ⟨v1, v2, rfl, o1, o2, f2, q1, q2⟩
  have HF2 := hide ((HF1.out.trans f2).mono (Y := fun _ => False) (by simp))
  have HT2 := hide (HB1.out.fr f2 (fun h => h))
  have HL2 : Hid (g < W2.heap.size) := hide (by have := f2.size; have := HL1.out; omega)
  have HRT2 := hide (HRT.out.fr HF2.out (fun _ _ h => h))
  clear HC f2 d0 d1 HF1 HB1
  by_cases hr : rightB ⟨lo, hi⟩ = true
  · have hcode := codeP_ok _ hr
    rw [hcode]
    obtain ⟨h1, h2, h3⟩ := (rightB_iff _).1 hr
    simp only [] at h1 h2 h3
    obtain ⟨gm, fb, tb, dF, dT, c1, c2, r1, r2, r3, r4, r5, r6, r7, r8, r9, r10, r11⟩ := HRT2.out
    obtain ⟨a1, k1, rfl, _⟩ := o1.shape
    obtain ⟨a2, k2, rfl, _⟩ := o2.shape
    obtain ⟨LL, hLL⟩ : ∃ LL, LL = lefts ⟨lo, hi⟩ := ⟨_, rfl⟩
    obtain ⟨RR, hRR⟩ : ∃ RR, RR = rights ⟨lo, hi⟩ := ⟨_, rfl⟩
    rw [← hLL] at o1 q1 ⊢
    rw [← hRR] at o2 q2 ⊢
    have hll : LL.length ≤ 41 := by rw [hLL]; exact lefts_len _
    have hrl : RR.length ≤ 41 := by rw [hRR]; exact rights_len _
    obtain ⟨n1, hn1⟩ : ∃ n1, n1 = LL.length := ⟨_, rfl⟩
    obtain ⟨n2, hn2⟩ : ∃ n2, n2 = RR.length := ⟨_, rfl⟩
    rw [← hn1] at hll o1 q1 ⊢
    rw [← hn2] at hrl o2 q2 ⊢
    obtain ⟨FF, hFF⟩ : ∃ FF, FF = dF.F := ⟨_, rfl⟩
    obtain ⟨FT, hFT⟩ : ∃ FT, FT = dT.F := ⟨_, rfl⟩
    have hgw : g = w.heap.size := HG.out
    have l1 : gt < w.heap.size := (HRT.out.lt gt ((r11 gt).2 (.inl rfl))).2
    have l2 : gm < w.heap.size := (HRT.out.lt gm ((r11 gm).2 (.inr (.inl rfl)))).2
    have l3 : ∀ k, (k = fb ∨ dF.X k) → k < w.heap.size := fun k hk => (HRT.out.lt k ((r11 k).2 (.inr (.inr (.inl hk))))).2
    have l4 : ∀ k, (k = tb ∨ dT.X k) → k < w.heap.size := fun k hk => (HRT.out.lt k ((r11 k).2 (.inr (.inr (.inr hk))))).2
    have hsz := HF2.out.size
    obtain ⟨bx, hbx⟩ : ∃ bx, bx = W2.heap.size := ⟨_, rfl⟩
    obtain ⟨W3, hW3⟩ : ∃ W3, W3 = W2.alloc (.cells #[.slice none 0 0] 25) := ⟨_, rfl⟩
    have HSA : Hid (SA W2 base bx gt gm fb tb bx g dF.X dT.X) := hide ⟨r9.1, r9.2.1, r9.2.2.1, r9.2.2.2.1, r9.2.2.2.2.1, r9.2.2.2.2.2, by omega, by omega, fun k hk => by have := l3 k hk; omega, fun k hk => by have := l4 k hk; omega, fun h => by have := l3 g h; omega, fun h => by have := l4 g h; omega, by rw [hbx]; exact HL2.out, by omega, Nat.le_refl _⟩
    have A3 := Fr.alloc W2 (.cells #[.slice none 0 0] 25) (fun k => k = fb ∨ k = tb)
    have A3' := Fr.alloc W2 (.cells #[.slice none 0 0] 25) (fun _ => False)
    have HSO3 : Hid (SO base bx gt gm fb tb bx g lo hi L.length (px L) FF FT dF.X dT.X W2 c1 c2 [] W3) := hide (by
      rw [hW3]
      exact ⟨by rw [A3'.block gt (by omega) (fun h => h)]; exact r1, r2.fr A3' (fun h => h), ⟨dF, r3.fr A3' (fun _ _ h => h), hFF.symm, rfl⟩, ⟨dT, r4.fr A3' (fun _ _ h => h), hFT.symm, rfl⟩, ⟨_, by rw [hbx]; exact Boxed.new W2 25 _, World.ownsRow_nil _ _ _ _⟩, HT2.out.fr A3' (fun h => h), A3, by rw [hbx]; simp⟩)
    have HRR : Hid (Con keyF FF L ∧ Con keyT FT L ∧ (Ids L ∧ ∀ p ∈ L, p.Ok)) := hide ⟨hFF ▸ r5, hFT ▸ r6, r7⟩
    have HSRT : Hid (Srt FF ∧ Srt FT) := hide ⟨hFF ▸ r3.srt, hFT ▸ r4.srt⟩
    have HBD : Hid (0 ≤ c1 ∧ c1 ≤ (N : Int) ∧ 0 ≤ c2 ∧ c2 ≤ (N : Int) ∧ FF.length ≤ N ∧ FT.length ≤ N ∧ L.length ≤ N) := hide (by rw [hFF, hFT]; exact r8)
    have HAP : Hid (gt ≠ gm ∧ ¬ TX fb dF gt ∧ ¬ TX tb dT gt ∧ ¬ TX fb dF gm ∧ ¬ TX tb dT gm ∧ ∀ k, TX fb dF k → ¬ TX tb dT k) := hide r9
    have HBS := hide r10
    have HX := hide r11
    have HO1 := hide o1
    have HO2 := hide o2
    have HQ1 : Hid (∀ k, (Value.slice a1 n1 k1).ownBlock = some k → ¬ (k = fb ∨ k = tb)) := hide (fun k hk h => by have := q1 k hk; have := HL1.out; rcases h with h | h; (have := l3 k (.inl h); omega); (have := l4 k (.inl h); omega))
    have HQ2 : Hid (∀ k, (Value.slice a2 n2 k2).ownBlock = some k → ¬ (k = fb ∨ k = tb)) := hide (fun k hk h => by have := q2 k hk; have := HL1.out; rcases h with h | h; (have := l3 k (.inl h); omega); (have := l4 k (.inl h); omega))
    have HLL := hide hLL
    have HRR2 := hide hRR
    have HN1 := hide hn1
    have HN2 := hide hn2
    have HW3 := hide hW3
    have HBX := hide hbx
    have HR := hide hr
    have HLL41 := hide hll
    have HRR41 := hide hrl
    have HCODE := hide hcode
    have HLT : Hid (gt < w.heap.size ∧ gm < w.heap.size) := hide ⟨l1, l2⟩
    have hc13 := HSO3.out.cells
    clear r1 r2 r3 r4 r5 r6 r7 r8 r9 r10 r11 o1 o2 q1 q2 hLL hRR hn1 hn2 hFF hFT hgw l1 l2 l3 l4 hsz hbx hW3 A3 A3' hr hcode HRT2 hc13
    go_wp2_with (rw [← HW3.out, ← HBX.out]; clear HW3)
    go_loopw [27] (fun c wr => ∃ (i : Nat) (C : List Int), i ≤ n1 ∧ c = .int .i64 (i : Int) ∧ C = (LL.take i).flatMap (gT lo FT) ∧ C.length ≤ i * 17179869184 ∧ SO base bx gt gm fb tb bx g lo hi L.length (px L) FF FT dF.X dT.X W2 c1 (c2 + (i : Int)) C wr) (fun c _ => n1 - (intOf c).toNat)
    case atStart => exact ⟨0, [], Nat.zero_le _, rfl, rfl, Nat.zero_le _, by simpa using HSO3.out⟩
    case round =>
      rename World => w7
      obtain ⟨i, C, hin, rfl, hC, hCl, hso⟩ := hrel
      have HSO := hide hso
      have HC := hide hC
      have HCL := hide hCl
      clear hso hC hCl HSO3
      by_cases hlt : i < n1
      · obtain ⟨x, hx⟩ : ∃ x, LL[i]? = some x := ⟨_, List.getElem?_eq_getElem (by rw [← HN1.out]; exact hlt)⟩
        obtain ⟨hx0, hx1⟩ := left_range HR.out (m := x) (by rw [← HLL.out]; exact List.mem_of_getElem? hx)
        obtain ⟨gv, rfl, cv⟩ := (HO1.out.fr HSO.out.fr HQ1.out).at i x hx
        have HX1 := hide hx
        have HSTEP := hide (fun (V : World) (s : SO base bx gt gm fb tb bx g lo hi L.length (px L) FF FT dF.X dT.X W2 c1 (c2 + (i : Int)) C V) => SO.takeT HSA.out s (txt [x, lo + 1]) (txt [x + 1]) (by have := HBD.out; omega) (by have := HBD.out; have := HN.out; omega) (by have := HBD.out; have := HN.out; have := HCL.out; omega))
        clear hx
        go_wp2_with fail
        refine wp_region_K (fun z => decide (z < 15)) (fun U : World => Fr w7.drew U (fun _ => False)) (by kernel_rfl) ?_
        have HSV := hide (HSO.out.fresh (Fr.drew w7 (fun _ => False)))
        generalize hVV : w7.drew = V9 at *
        clear hVV
        refine region_key (fun a0 a U => ∃ p q : Nat, a = ((((((((((((((((a0.put (some 31) (.func (.func 22) #[] #[.pointer (some ⟨bx, 0, none⟩)])).put (some 32) (.pointer (some ⟨gt, 0, none⟩))).put (some 33) (.pointer (some ⟨gt, 0, none⟩))).put (some 34) (.pointer (some ⟨gt, 2, none⟩))).put (some 35) (.pointer (some ⟨tb, 0, none⟩))).put (some 36) (.int .i64 x)).put (some 37) (.pointer (some ⟨g, 0, none⟩))).put (some 38) (.int .i64 lo)).put (some 39) (.int .i64 (lo + 1))).put (some 40) (.slice (some ⟨p, 0, none⟩) 2 2)).put (some 41) (.string (txt [x, (lo + 1)]))).put (some 42) (.int .i64 x)).put (some 43) (.int .i64 (x + 1))).put (some 44) (.slice (some ⟨q, 0, none⟩) 1 1)).put (some 45) (.string (txt [(x + 1)]))).put (some 46) (.tuple #[])) ∧ SO base bx gt gm fb tb bx g lo hi L.length (px L) FF FT dF.X dT.X W2 c1 (c2 + (i : Int) + 1) (C ++ idsR (txt [x, lo + 1]) (txt [x + 1]) FT) U) ?_ ?_
        · rintro _ U ⟨p, q, rfl, s9⟩
          simp only [Act.put, List.setIfInBounds_toArray, List.set_cons_zero, List.set_cons_succ]
          have HS9 := hide s9
          clear s9 HSTEP HSO
          go_wp2
          go_roundw
          case rel => exact ⟨i + 1, C ++ gT lo FT x, by omega, by go_num, by rw [flat_take _ _ _ _ HX1.out, HC.out], by rw [List.length_append]; have h1 := idsR_len (txt [x, lo + 1]) (txt [x + 1]) FT; have h2 := HBD.out; have h3 := HN.out; have h4 := HCL.out; have h5 : (gT lo FT x).length = (idsR (txt [x, lo + 1]) (txt [x + 1]) FT).length := rfl; omega, by have := HS9.out; rw [show c2 + ((i + 1 : Nat) : Int) = c2 + (i : Int) + 1 by omega]; exact this⟩
          case measure => simp [intOf]; omega
        · intro HK
          have hS : (fun U : World => Fr V9 U (fun _ => False)) V9 := Fr.refl _ _
          refine wpAnyK_takeTo 0 (some 31) (.func (.func 22) #[] #[.pointer (some ⟨bx, 0, none⟩)]) [15] rfl rfl (by kernel_rfl) (by kernel_rfl) (by kernel_rfl) (by kernel_rfl) (fun _ _ _ h => h) hS (Or.inl ⟨rfl, fun w1 hw1 => by obtain ⟨c0, x1, x2, y0, y1⟩ := (HSV.out.fresh (hw1 : Fr V9 w1 (fun _ => False))).cells; first | (go_simp; done) | (go_simp; exact wraps_i64 _ (by omega) (by omega)) | (go_simp; exact congrArg _ (wraps_i64 _ (by omega) (by omega)))⟩) ?_
          simp only [Act.put, List.setIfInBounds_toArray, List.set_cons_zero, List.set_cons_succ]
          refine wpAnyK_takeTo 1 (some 32) (.pointer (some ⟨gt, 0, none⟩)) [2, 3, 4, 15] rfl rfl (by kernel_rfl) (by kernel_rfl) (by kernel_rfl) (by kernel_rfl) (fun _ _ _ h => h) hS (Or.inl ⟨rfl, fun w1 hw1 => by obtain ⟨c0, x1, x2, y0, y1⟩ := (HSV.out.fresh (hw1 : Fr V9 w1 (fun _ => False))).cells; first | (go_simp; done) | (go_simp; exact wraps_i64 _ (by omega) (by omega)) | (go_simp; exact congrArg _ (wraps_i64 _ (by omega) (by omega)))⟩) ?_
          simp only [Act.put, List.setIfInBounds_toArray, List.set_cons_zero, List.set_cons_succ]
          refine wpAnyK_takeTo 2 (some 33) (.pointer (some ⟨gt, 0, none⟩)) [3, 4, 15] rfl rfl (by kernel_rfl) (by kernel_rfl) (by kernel_rfl) (by kernel_rfl) (fun _ _ _ h => h) hS (Or.inl ⟨rfl, fun w1 hw1 => by obtain ⟨c0, x1, x2, y0, y1⟩ := (HSV.out.fresh (hw1 : Fr V9 w1 (fun _ => False))).cells; first | (go_simp; done) | (go_simp; exact wraps_i64 _ (by omega) (by omega)) | (go_simp; exact congrArg _ (wraps_i64 _ (by omega) (by omega)))⟩) ?_
          simp only [Act.put, List.setIfInBounds_toArray, List.set_cons_zero, List.set_cons_succ]
          refine wpAnyK_takeTo 3 (some 34) (.pointer (some ⟨gt, 2, none⟩)) [4, 15] rfl rfl (by kernel_rfl) (by kernel_rfl) (by kernel_rfl) (by kernel_rfl) (fun _ _ _ h => h) hS (Or.inl ⟨rfl, fun w1 hw1 => by obtain ⟨c0, x1, x2, y0, y1⟩ := (HSV.out.fresh (hw1 : Fr V9 w1 (fun _ => False))).cells; first | (go_simp; done) | (go_simp; exact wraps_i64 _ (by omega) (by omega)) | (go_simp; exact congrArg _ (wraps_i64 _ (by omega) (by omega)))⟩) ?_
          simp only [Act.put, List.setIfInBounds_toArray, List.set_cons_zero, List.set_cons_succ]
          refine wpAnyK_takeTo 4 (some 35) (.pointer (some ⟨tb, 0, none⟩)) [15] rfl rfl (by kernel_rfl) (by kernel_rfl) (by kernel_rfl) (by kernel_rfl) (fun _ _ _ h => h) hS (Or.inl ⟨rfl, fun w1 hw1 => by obtain ⟨c0, x1, x2, y0, y1⟩ := (HSV.out.fresh (hw1 : Fr V9 w1 (fun _ => False))).cells; first | (go_simp; done) | (go_simp; exact wraps_i64 _ (by omega) (by omega)) | (go_simp; exact congrArg _ (wraps_i64 _ (by omega) (by omega)))⟩) ?_
          simp only [Act.put, List.setIfInBounds_toArray, List.set_cons_zero, List.set_cons_succ]
          refine wpAnyK_takeTo 5 (some 36) (.int .i64 x) [9, 10, 14, 15] rfl rfl (by kernel_rfl) (by kernel_rfl) (by kernel_rfl) (by kernel_rfl) (fun _ _ _ h => h) hS (Or.inl ⟨rfl, fun w1 hw1 => by obtain ⟨c0, x1, x2, y0, y1⟩ := (HSV.out.fresh (hw1 : Fr V9 w1 (fun _ => False))).cells; first | (go_simp; done) | (go_simp; exact wraps_i64 _ (by omega) (by omega)) | (go_simp; exact congrArg _ (wraps_i64 _ (by omega) (by omega)))⟩) ?_
          simp only [Act.put, List.setIfInBounds_toArray, List.set_cons_zero, List.set_cons_succ]
          refine wpAnyK_takeTo 6 (some 37) (.pointer (some ⟨g, 0, none⟩)) [7, 8, 9, 10, 14, 15] rfl rfl (by kernel_rfl) (by kernel_rfl) (by kernel_rfl) (by kernel_rfl) (fun _ _ _ h => h) hS (Or.inl ⟨rfl, fun w1 hw1 => by obtain ⟨c0, x1, x2, y0, y1⟩ := (HSV.out.fresh (hw1 : Fr V9 w1 (fun _ => False))).cells; first | (go_simp; done) | (go_simp; exact wraps_i64 _ (by omega) (by omega)) | (go_simp; exact congrArg _ (wraps_i64 _ (by omega) (by omega)))⟩) ?_
          simp only [Act.put, List.setIfInBounds_toArray, List.set_cons_zero, List.set_cons_succ]
          refine wpAnyK_takeTo 7 (some 38) (.int .i64 lo) [8, 9, 10, 14, 15] rfl rfl (by kernel_rfl) (by kernel_rfl) (by kernel_rfl) (by kernel_rfl) (fun _ _ _ h => h) hS (Or.inl ⟨rfl, fun w1 hw1 => by obtain ⟨c0, x1, x2, y0, y1⟩ := (HSV.out.fresh (hw1 : Fr V9 w1 (fun _ => False))).cells; first | (go_simp; done) | (go_simp; exact wraps_i64 _ (by omega) (by omega)) | (go_simp; exact congrArg _ (wraps_i64 _ (by omega) (by omega)))⟩) ?_
          simp only [Act.put, List.setIfInBounds_toArray, List.set_cons_zero, List.set_cons_succ]
          refine wpAnyK_takeTo 8 (some 39) (.int .i64 (lo + 1)) [9, 10, 14, 15] rfl rfl (by kernel_rfl) (by kernel_rfl) (by kernel_rfl) (by kernel_rfl) (fun _ _ _ h => h) hS (Or.inl ⟨rfl, fun w1 hw1 => by obtain ⟨c0, x1, x2, y0, y1⟩ := (HSV.out.fresh (hw1 : Fr V9 w1 (fun _ => False))).cells; first | (go_simp; done) | (go_simp; exact wraps_i64 _ (by omega) (by omega)) | (go_simp; exact congrArg _ (wraps_i64 _ (by omega) (by omega)))⟩) ?_
          simp only [Act.put, List.setIfInBounds_toArray, List.set_cons_zero, List.set_cons_succ]
          refine wpAnyK_takeTo 11 (some 42) (.int .i64 x) [12, 13, 14, 15] rfl rfl (by kernel_rfl) (by kernel_rfl) (by kernel_rfl) (by kernel_rfl) (fun _ _ _ h => h) hS (Or.inl ⟨rfl, fun w1 hw1 => by obtain ⟨c0, x1, x2, y0, y1⟩ := (HSV.out.fresh (hw1 : Fr V9 w1 (fun _ => False))).cells; first | (go_simp; done) | (go_simp; exact wraps_i64 _ (by omega) (by omega)) | (go_simp; exact congrArg _ (wraps_i64 _ (by omega) (by omega)))⟩) ?_
          simp only [Act.put, List.setIfInBounds_toArray, List.set_cons_zero, List.set_cons_succ]
          refine wpAnyK_takeTo 12 (some 43) (.int .i64 (x + 1)) [13, 14, 15] rfl rfl (by kernel_rfl) (by kernel_rfl) (by kernel_rfl) (by kernel_rfl) (fun _ _ _ h => h) hS (Or.inl ⟨rfl, fun w1 hw1 => by obtain ⟨c0, x1, x2, y0, y1⟩ := (HSV.out.fresh (hw1 : Fr V9 w1 (fun _ => False))).cells; first | (go_simp; done) | (go_simp; exact wraps_i64 _ (by omega) (by omega)) | (go_simp; exact congrArg _ (wraps_i64 _ (by omega) (by omega)))⟩) ?_
          simp only [Act.put, List.setIfInBounds_toArray, List.set_cons_zero, List.set_cons_succ]
          clear hS
          refine wpAnyK_two (i := 9) (j := 13) (by kernel_rfl) rfl rfl rfl rfl ?_ ?_
          · go_simp
            have hA := intsAt_new V9 [x, (lo + 1)] 2 #[.int .i64 x, .int .i64 (lo + 1)] rfl
            have lA : V9.heap.size < (V9.alloc (.cells #[.int .i64 x, .int .i64 (lo + 1)] 2)).heap.size := by simp
            have fU1 := ((Fr.refl V9 (fun _ => False)).trans (Fr.alloc V9 (.cells #[.int .i64 x, .int .i64 (lo + 1)] 2) (fun _ => False))).mono (Y := fun _ => False) (by simp)
            refine ⟨fU1, ?_⟩
            generalize V9.alloc (.cells #[.int .i64 x, .int .i64 (lo + 1)] 2) = U1 at *
            generalize hgA : V9.heap.size = gA at *
            clear hgA
            refine wpAnyK_two (i := 10) (j := 13) (by kernel_rfl) rfl rfl rfl rfl ?_ ?_
            · refine wp_call_to (some 41) rfl 17 #[.slice (some ⟨gA, 0, none⟩) 2 2] (by go_simp) (text_any gA 2 [x, (lo + 1)] 2 rfl U1 hA lA (by omega)) ?_
              rintro e U2 ⟨rfl, fxU2⟩
              have fU2 := (fU1.trans fxU2).mono (Y := fun _ => False) (by simp)
              refine ⟨_, rfl, fun _ => fU2, ?_⟩
              simp only [Act.put, List.setIfInBounds_toArray, List.set_cons_zero, List.set_cons_succ]
              refine wpAnyK_one (i := 13) (by kernel_rfl) rfl rfl ?_
              go_simp
              have hB := intsAt_new U2 [(x + 1)] 2 #[.int .i64 (x + 1)] rfl
              have lB : U2.heap.size < (U2.alloc (.cells #[.int .i64 (x + 1)] 2)).heap.size := by simp
              have fU3 := (fU2.trans (Fr.alloc U2 (.cells #[.int .i64 (x + 1)] 2) (fun _ => False))).mono (Y := fun _ => False) (by simp)
              refine ⟨fU3, ?_⟩
              generalize U2.alloc (.cells #[.int .i64 (x + 1)] 2) = U3 at *
              generalize hgB : U2.heap.size = gB at *
              clear hgB
              refine wpAnyK_one (i := 14) (by kernel_rfl) rfl rfl ?_
              refine wp_call_to (some 45) rfl 17 #[.slice (some ⟨gB, 0, none⟩) 1 1] (by go_simp) (text_any gB 1 [(x + 1)] 1 rfl U3 hB lB (by omega)) ?_
              rintro e U4 ⟨rfl, fxU4⟩
              have fU4 := (fU3.trans fxU4).mono (Y := fun _ => False) (by simp)
              refine ⟨_, rfl, fun _ => fU4, ?_⟩
              simp only [Act.put, List.setIfInBounds_toArray, List.set_cons_zero, List.set_cons_succ]
              refine wpAnyK_one (i := 15) (by kernel_rfl) rfl rfl ?_
              refine wp_call_to (some 46) rfl 22 #[.pointer (some ⟨tb, 0, none⟩), .string (txt [x, lo + 1]), .string (txt [x + 1]), .pointer (some ⟨bx, 0, none⟩)] (by go_simp) (HSTEP.out U4 (HSV.out.fresh fU4)) ?_
              rintro e W9 ⟨rfl, s9⟩
              refine ⟨_, rfl, fun h => by simp at h, ?_⟩
              simp only [Act.put, List.setIfInBounds_toArray, List.set_cons_zero, List.set_cons_succ]
              exact wpAnyK_done (by kernel_rfl) (HK _ _ ⟨gA, gB, by simp only [Act.put, List.setIfInBounds_toArray, List.set_cons_zero, List.set_cons_succ], s9⟩) _

            · replace hA := IntsAt.fr hA (Fr.alloc U1 (.cells #[.int .i64 (x + 1)] 2) (fun _ => False)) (fun h => h) lA
              replace lA : gA < (U1.alloc (.cells #[.int .i64 (x + 1)] 2)).heap.size := by simp; omega
              go_simp
              have hB := intsAt_new U1 [(x + 1)] 2 #[.int .i64 (x + 1)] rfl
              have lB : U1.heap.size < (U1.alloc (.cells #[.int .i64 (x + 1)] 2)).heap.size := by simp
              have fU2 := (fU1.trans (Fr.alloc U1 (.cells #[.int .i64 (x + 1)] 2) (fun _ => False))).mono (Y := fun _ => False) (by simp)
              refine ⟨fU2, ?_⟩
              generalize U1.alloc (.cells #[.int .i64 (x + 1)] 2) = U2 at *
              generalize hgB : U1.heap.size = gB at *
              clear hgB
              refine wpAnyK_one (i := 10) (by kernel_rfl) rfl rfl ?_
              refine wp_call_to (some 41) rfl 17 #[.slice (some ⟨gA, 0, none⟩) 2 2] (by go_simp) (text_any gA 2 [x, (lo + 1)] 2 rfl U2 hA lA (by omega)) ?_
              rintro e U3 ⟨rfl, fxU3⟩
              have fU3 := (fU2.trans fxU3).mono (Y := fun _ => False) (by simp)
              refine ⟨_, rfl, fun _ => fU3, ?_⟩
              replace hB := IntsAt.fr hB fxU3 (fun h => h) lB
              replace lB := Nat.lt_of_lt_of_le lB fxU3.size
              simp only [Act.put, List.setIfInBounds_toArray, List.set_cons_zero, List.set_cons_succ]
              refine wpAnyK_one (i := 14) (by kernel_rfl) rfl rfl ?_
              refine wp_call_to (some 45) rfl 17 #[.slice (some ⟨gB, 0, none⟩) 1 1] (by go_simp) (text_any gB 1 [(x + 1)] 1 rfl U3 hB lB (by omega)) ?_
              rintro e U4 ⟨rfl, fxU4⟩
              have fU4 := (fU3.trans fxU4).mono (Y := fun _ => False) (by simp)
              refine ⟨_, rfl, fun _ => fU4, ?_⟩
              simp only [Act.put, List.setIfInBounds_toArray, List.set_cons_zero, List.set_cons_succ]
              refine wpAnyK_one (i := 15) (by kernel_rfl) rfl rfl ?_
              refine wp_call_to (some 46) rfl 22 #[.pointer (some ⟨tb, 0, none⟩), .string (txt [x, lo + 1]), .string (txt [x + 1]), .pointer (some ⟨bx, 0, none⟩)] (by go_simp) (HSTEP.out U4 (HSV.out.fresh fU4)) ?_
              rintro e W9 ⟨rfl, s9⟩
              refine ⟨_, rfl, fun h => by simp at h, ?_⟩
              simp only [Act.put, List.setIfInBounds_toArray, List.set_cons_zero, List.set_cons_succ]
              exact wpAnyK_done (by kernel_rfl) (HK _ _ ⟨gA, gB, by simp only [Act.put, List.setIfInBounds_toArray, List.set_cons_zero, List.set_cons_succ], s9⟩) _


          · go_simp
            have hB := intsAt_new V9 [(x + 1)] 2 #[.int .i64 (x + 1)] rfl
            have lB : V9.heap.size < (V9.alloc (.cells #[.int .i64 (x + 1)] 2)).heap.size := by simp
            have fU1 := ((Fr.refl V9 (fun _ => False)).trans (Fr.alloc V9 (.cells #[.int .i64 (x + 1)] 2) (fun _ => False))).mono (Y := fun _ => False) (by simp)
            refine ⟨fU1, ?_⟩
            generalize V9.alloc (.cells #[.int .i64 (x + 1)] 2) = U1 at *
            generalize hgB : V9.heap.size = gB at *
            clear hgB
            refine wpAnyK_one (i := 9) (by kernel_rfl) rfl rfl ?_
            replace hB := IntsAt.fr hB (Fr.alloc U1 (.cells #[.int .i64 x, .int .i64 (lo + 1)] 2) (fun _ => False)) (fun h => h) lB
            replace lB : gB < (U1.alloc (.cells #[.int .i64 x, .int .i64 (lo + 1)] 2)).heap.size := by simp; omega
            go_simp
            have hA := intsAt_new U1 [x, (lo + 1)] 2 #[.int .i64 x, .int .i64 (lo + 1)] rfl
            have lA : U1.heap.size < (U1.alloc (.cells #[.int .i64 x, .int .i64 (lo + 1)] 2)).heap.size := by simp
            have fU2 := (fU1.trans (Fr.alloc U1 (.cells #[.int .i64 x, .int .i64 (lo + 1)] 2) (fun _ => False))).mono (Y := fun _ => False) (by simp)
            refine ⟨fU2, ?_⟩
            generalize U1.alloc (.cells #[.int .i64 x, .int .i64 (lo + 1)] 2) = U2 at *
            generalize hgA : U1.heap.size = gA at *
            clear hgA
            refine wpAnyK_one (i := 10) (by kernel_rfl) rfl rfl ?_
            refine wp_call_to (some 41) rfl 17 #[.slice (some ⟨gA, 0, none⟩) 2 2] (by go_simp) (text_any gA 2 [x, (lo + 1)] 2 rfl U2 hA lA (by omega)) ?_
            rintro e U3 ⟨rfl, fxU3⟩
            have fU3 := (fU2.trans fxU3).mono (Y := fun _ => False) (by simp)
            refine ⟨_, rfl, fun _ => fU3, ?_⟩
            replace hB := IntsAt.fr hB fxU3 (fun h => h) lB
            replace lB := Nat.lt_of_lt_of_le lB fxU3.size
            simp only [Act.put, List.setIfInBounds_toArray, List.set_cons_zero, List.set_cons_succ]
            refine wpAnyK_one (i := 14) (by kernel_rfl) rfl rfl ?_
            refine wp_call_to (some 45) rfl 17 #[.slice (some ⟨gB, 0, none⟩) 1 1] (by go_simp) (text_any gB 1 [(x + 1)] 1 rfl U3 hB lB (by omega)) ?_
            rintro e U4 ⟨rfl, fxU4⟩
            have fU4 := (fU3.trans fxU4).mono (Y := fun _ => False) (by simp)
            refine ⟨_, rfl, fun _ => fU4, ?_⟩
            simp only [Act.put, List.setIfInBounds_toArray, List.set_cons_zero, List.set_cons_succ]
            refine wpAnyK_one (i := 15) (by kernel_rfl) rfl rfl ?_
            refine wp_call_to (some 46) rfl 22 #[.pointer (some ⟨tb, 0, none⟩), .string (txt [x, lo + 1]), .string (txt [x + 1]), .pointer (some ⟨bx, 0, none⟩)] (by go_simp) (HSTEP.out U4 (HSV.out.fresh fU4)) ?_
            rintro e W9 ⟨rfl, s9⟩
            refine ⟨_, rfl, fun h => by simp at h, ?_⟩
            simp only [Act.put, List.setIfInBounds_toArray, List.set_cons_zero, List.set_cons_succ]
            exact wpAnyK_done (by kernel_rfl) (HK _ _ ⟨gA, gB, by simp only [Act.put, List.setIfInBounds_toArray, List.set_cons_zero, List.set_cons_succ], s9⟩) _


      · obtain rfl : i = n1 := by omega
        have HC0 : Hid (C = LL.flatMap (gT lo FT)) := hide (by rw [HC.out, List.take_of_length_le (by rw [← HN1.out]; omega)])
        clear HC hlt hin
        go_wp2_with fail
        have HSTEP := hide (fun (V : World) (s : SO base bx gt gm fb tb bx g lo hi L.length (px L) FF FT dF.X dT.X W2 c1 (c2 + (i : Int)) C V) => SO.takeF HSA.out s (txt [lo]) (txt [hi]) (by have := HBD.out; omega) (by have := HBD.out; have := HN.out; omega) (by have := HBD.out; have := HN.out; have := HCL.out; omega))
        refine wp_region_K (fun z => decide (z < 13)) (fun U : World => Fr w7.drew U (fun _ => False)) (by kernel_rfl) ?_
        have HSV := hide (HSO.out.fresh (Fr.drew w7 (fun _ => False)))
        generalize hVV : w7.drew = V11 at *
        clear hVV
        refine region_key (fun a0 a U => ∃ p q : Nat, a = ((((((((((((((a0.put (some 48) (.func (.func 22) #[] #[.pointer (some ⟨bx, 0, none⟩)])).put (some 49) (.pointer (some ⟨gt, 0, none⟩))).put (some 50) (.pointer (some ⟨gt, 0, none⟩))).put (some 51) (.pointer (some ⟨gt, 1, none⟩))).put (some 52) (.pointer (some ⟨fb, 0, none⟩))).put (some 53) (.pointer (some ⟨g, 0, none⟩))).put (some 54) (.int .i64 lo)).put (some 55) (.slice (some ⟨p, 0, none⟩) 1 1)).put (some 56) (.string (txt [lo]))).put (some 57) (.pointer (some ⟨g, 1, none⟩))).put (some 58) (.int .i64 hi)).put (some 59) (.slice (some ⟨q, 0, none⟩) 1 1)).put (some 60) (.string (txt [hi]))).put (some 61) (.tuple #[])) ∧ SO base bx gt gm fb tb bx g lo hi L.length (px L) FF FT dF.X dT.X W2 (c1 + 1) (c2 + (i : Int)) (C ++ idsR (txt [lo]) (txt [hi]) FF) U) ?_ ?_
        · rintro _ U ⟨p, q, rfl, s9⟩
          simp only [Act.put, List.setIfInBounds_toArray, List.set_cons_zero, List.set_cons_succ]
          have HS9 := hide s9
          clear s9 HSTEP HSO
          go_wp2
          go_loopw [64] (fun c wr => ∃ (j : Nat) (C2 : List Int), j ≤ n2 ∧ c = .int .i64 (j : Int) ∧ C2 = C ++ idsR (txt [lo]) (txt [hi]) FF ++ (RR.take j).flatMap (gF hi FF) ∧ C2.length ≤ (i + 1 + j) * 17179869184 ∧ SO base bx gt gm fb tb bx g lo hi L.length (px L) FF FT dF.X dT.X W2 (c1 + 1 + (j : Int)) (c2 + (i : Int)) C2 wr) (fun c _ => n2 - (intOf c).toNat)
          case atStart => exact ⟨0, _, Nat.zero_le _, rfl, rfl, by have h1 := idsR_len (txt [lo]) (txt [hi]) FF; have h2 := HBD.out; have h3 := HN.out; have h4 := HCL.out; simp only [List.take_zero, List.flatMap_nil, List.append_nil, List.length_append]; omega, by simpa using HS9.out⟩
          case round =>
            rename World => w8
            obtain ⟨j, C2, hjn, rfl, hC2, hCl2, hso2⟩ := hrel
            have HSO := hide hso2
            have HC2 := hide hC2
            have HCL2 := hide hCl2
            clear hso2 hC2 hCl2 HS9
            by_cases hlt2 : j < n2
            · obtain ⟨x, hx⟩ : ∃ x, RR[j]? = some x := ⟨_, List.getElem?_eq_getElem (by rw [← HN2.out]; exact hlt2)⟩
              obtain ⟨hx0, hx1⟩ := right_range HR.out (m := x) (by rw [← HRR2.out]; exact List.mem_of_getElem? hx)
              obtain ⟨gv, rfl, cv⟩ := (HO2.out.fr HSO.out.fr HQ2.out).at j x hx
              have HX1 := hide hx
              have HSTEP := hide (fun (V : World) (s : SO base bx gt gm fb tb bx g lo hi L.length (px L) FF FT dF.X dT.X W2 (c1 + 1 + (j : Int)) (c2 + (i : Int)) C2 V) => SO.takeF HSA.out s (txt [x]) (txt [x, hi]) (by have := HBD.out; omega) (by have := HBD.out; have := HN.out; omega) (by have := HBD.out; have := HN.out; have := HCL2.out; omega))
              clear hx
              go_wp2_with fail
              refine wp_region_K (fun z => decide (z < 13)) (fun U : World => Fr w8.drew U (fun _ => False)) (by kernel_rfl) ?_
              have HSV := hide (HSO.out.fresh (Fr.drew w8 (fun _ => False)))
              generalize hVV : w8.drew = V15 at *
              clear hVV
              refine region_key (fun a0 a U => ∃ p q : Nat, a = ((((((((((((((a0.put (some 68) (.func (.func 22) #[] #[.pointer (some ⟨bx, 0, none⟩)])).put (some 69) (.pointer (some ⟨gt, 0, none⟩))).put (some 70) (.pointer (some ⟨gt, 0, none⟩))).put (some 71) (.pointer (some ⟨gt, 1, none⟩))).put (some 72) (.pointer (some ⟨fb, 0, none⟩))).put (some 73) (.int .i64 x)).put (some 74) (.slice (some ⟨p, 0, none⟩) 1 1)).put (some 75) (.string (txt [x]))).put (some 76) (.int .i64 x)).put (some 77) (.pointer (some ⟨g, 1, none⟩))).put (some 78) (.int .i64 hi)).put (some 79) (.slice (some ⟨q, 0, none⟩) 2 2)).put (some 80) (.string (txt [x, hi]))).put (some 81) (.tuple #[])) ∧ SO base bx gt gm fb tb bx g lo hi L.length (px L) FF FT dF.X dT.X W2 (c1 + 1 + (j : Int) + 1) (c2 + (i : Int)) (C2 ++ idsR (txt [x]) (txt [x, hi]) FF) U) ?_ ?_
              · rintro _ U ⟨p, q, rfl, s9⟩
                simp only [Act.put, List.setIfInBounds_toArray, List.set_cons_zero, List.set_cons_succ]
                have HS9 := hide s9
                clear s9 HSTEP HSO
                go_wp2
                go_roundw
                case rel => exact ⟨j + 1, C2 ++ gF hi FF x, by omega, by go_num, by rw [flat_take _ _ _ _ HX1.out, HC2.out, List.append_assoc], by rw [List.length_append]; have h1 := idsR_len (txt [x]) (txt [x, hi]) FF; have h2 := HBD.out; have h3 := HN.out; have h4 := HCL2.out; have h5 : (gF hi FF x).length = (idsR (txt [x]) (txt [x, hi]) FF).length := rfl; omega, by have := HS9.out; rw [show c1 + 1 + ((j + 1 : Nat) : Int) = c1 + 1 + (j : Int) + 1 by omega]; exact this⟩
                case measure => simp [intOf]; omega
              · intro HK
                have hS : (fun U : World => Fr V15 U (fun _ => False)) V15 := Fr.refl _ _
                refine wpAnyK_takeTo 0 (some 68) (.func (.func 22) #[] #[.pointer (some ⟨bx, 0, none⟩)]) [13] rfl rfl (by kernel_rfl) (by kernel_rfl) (by kernel_rfl) (by kernel_rfl) (fun _ _ _ h => h) hS (Or.inl ⟨rfl, fun w1 hw1 => by obtain ⟨c0, x1, x2, y0, y1⟩ := (HSV.out.fresh (hw1 : Fr V15 w1 (fun _ => False))).cells; first | (go_simp; done) | (go_simp; exact wraps_i64 _ (by omega) (by omega)) | (go_simp; exact congrArg _ (wraps_i64 _ (by omega) (by omega)))⟩) ?_
                simp only [Act.put, List.setIfInBounds_toArray, List.set_cons_zero, List.set_cons_succ]
                refine wpAnyK_takeTo 1 (some 69) (.pointer (some ⟨gt, 0, none⟩)) [2, 3, 4, 13] rfl rfl (by kernel_rfl) (by kernel_rfl) (by kernel_rfl) (by kernel_rfl) (fun _ _ _ h => h) hS (Or.inl ⟨rfl, fun w1 hw1 => by obtain ⟨c0, x1, x2, y0, y1⟩ := (HSV.out.fresh (hw1 : Fr V15 w1 (fun _ => False))).cells; first | (go_simp; done) | (go_simp; exact wraps_i64 _ (by omega) (by omega)) | (go_simp; exact congrArg _ (wraps_i64 _ (by omega) (by omega)))⟩) ?_
                simp only [Act.put, List.setIfInBounds_toArray, List.set_cons_zero, List.set_cons_succ]
                refine wpAnyK_takeTo 2 (some 70) (.pointer (some ⟨gt, 0, none⟩)) [3, 4, 13] rfl rfl (by kernel_rfl) (by kernel_rfl) (by kernel_rfl) (by kernel_rfl) (fun _ _ _ h => h) hS (Or.inl ⟨rfl, fun w1 hw1 => by obtain ⟨c0, x1, x2, y0, y1⟩ := (HSV.out.fresh (hw1 : Fr V15 w1 (fun _ => False))).cells; first | (go_simp; done) | (go_simp; exact wraps_i64 _ (by omega) (by omega)) | (go_simp; exact congrArg _ (wraps_i64 _ (by omega) (by omega)))⟩) ?_
                simp only [Act.put, List.setIfInBounds_toArray, List.set_cons_zero, List.set_cons_succ]
                refine wpAnyK_takeTo 3 (some 71) (.pointer (some ⟨gt, 1, none⟩)) [4, 13] rfl rfl (by kernel_rfl) (by kernel_rfl) (by kernel_rfl) (by kernel_rfl) (fun _ _ _ h => h) hS (Or.inl ⟨rfl, fun w1 hw1 => by obtain ⟨c0, x1, x2, y0, y1⟩ := (HSV.out.fresh (hw1 : Fr V15 w1 (fun _ => False))).cells; first | (go_simp; done) | (go_simp; exact wraps_i64 _ (by omega) (by omega)) | (go_simp; exact congrArg _ (wraps_i64 _ (by omega) (by omega)))⟩) ?_
                simp only [Act.put, List.setIfInBounds_toArray, List.set_cons_zero, List.set_cons_succ]
                refine wpAnyK_takeTo 4 (some 72) (.pointer (some ⟨fb, 0, none⟩)) [13] rfl rfl (by kernel_rfl) (by kernel_rfl) (by kernel_rfl) (by kernel_rfl) (fun _ _ _ h => h) hS (Or.inl ⟨rfl, fun w1 hw1 => by obtain ⟨c0, x1, x2, y0, y1⟩ := (HSV.out.fresh (hw1 : Fr V15 w1 (fun _ => False))).cells; first | (go_simp; done) | (go_simp; exact wraps_i64 _ (by omega) (by omega)) | (go_simp; exact congrArg _ (wraps_i64 _ (by omega) (by omega)))⟩) ?_
                simp only [Act.put, List.setIfInBounds_toArray, List.set_cons_zero, List.set_cons_succ]
                refine wpAnyK_takeTo 5 (some 73) (.int .i64 x) [6, 7, 12, 13] rfl rfl (by kernel_rfl) (by kernel_rfl) (by kernel_rfl) (by kernel_rfl) (fun _ _ _ h => h) hS (Or.inl ⟨rfl, fun w1 hw1 => by obtain ⟨c0, x1, x2, y0, y1⟩ := (HSV.out.fresh (hw1 : Fr V15 w1 (fun _ => False))).cells; first | (go_simp; done) | (go_simp; exact wraps_i64 _ (by omega) (by omega)) | (go_simp; exact congrArg _ (wraps_i64 _ (by omega) (by omega)))⟩) ?_
                simp only [Act.put, List.setIfInBounds_toArray, List.set_cons_zero, List.set_cons_succ]
                refine wpAnyK_takeTo 8 (some 76) (.int .i64 x) [11, 12, 13] rfl rfl (by kernel_rfl) (by kernel_rfl) (by kernel_rfl) (by kernel_rfl) (fun _ _ _ h => h) hS (Or.inl ⟨rfl, fun w1 hw1 => by obtain ⟨c0, x1, x2, y0, y1⟩ := (HSV.out.fresh (hw1 : Fr V15 w1 (fun _ => False))).cells; first | (go_simp; done) | (go_simp; exact wraps_i64 _ (by omega) (by omega)) | (go_simp; exact congrArg _ (wraps_i64 _ (by omega) (by omega)))⟩) ?_
                simp only [Act.put, List.setIfInBounds_toArray, List.set_cons_zero, List.set_cons_succ]
                refine wpAnyK_takeTo 9 (some 77) (.pointer (some ⟨g, 1, none⟩)) [10, 11, 12, 13] rfl rfl (by kernel_rfl) (by kernel_rfl) (by kernel_rfl) (by kernel_rfl) (fun _ _ _ h => h) hS (Or.inl ⟨rfl, fun w1 hw1 => by obtain ⟨c0, x1, x2, y0, y1⟩ := (HSV.out.fresh (hw1 : Fr V15 w1 (fun _ => False))).cells; first | (go_simp; done) | (go_simp; exact wraps_i64 _ (by omega) (by omega)) | (go_simp; exact congrArg _ (wraps_i64 _ (by omega) (by omega)))⟩) ?_
                simp only [Act.put, List.setIfInBounds_toArray, List.set_cons_zero, List.set_cons_succ]
                refine wpAnyK_takeTo 10 (some 78) (.int .i64 hi) [11, 12, 13] rfl rfl (by kernel_rfl) (by kernel_rfl) (by kernel_rfl) (by kernel_rfl) (fun _ _ _ h => h) hS (Or.inl ⟨rfl, fun w1 hw1 => by obtain ⟨c0, x1, x2, y0, y1⟩ := (HSV.out.fresh (hw1 : Fr V15 w1 (fun _ => False))).cells; first | (go_simp; done) | (go_simp; exact wraps_i64 _ (by omega) (by omega)) | (go_simp; exact congrArg _ (wraps_i64 _ (by omega) (by omega)))⟩) ?_
                simp only [Act.put, List.setIfInBounds_toArray, List.set_cons_zero, List.set_cons_succ]
                clear hS
                refine wpAnyK_two (i := 6) (j := 11) (by kernel_rfl) rfl rfl rfl rfl ?_ ?_
                · go_simp
                  have hA := intsAt_new V15 [x] 2 #[.int .i64 x] rfl
                  have lA : V15.heap.size < (V15.alloc (.cells #[.int .i64 x] 2)).heap.size := by simp
                  have fU1 := ((Fr.refl V15 (fun _ => False)).trans (Fr.alloc V15 (.cells #[.int .i64 x] 2) (fun _ => False))).mono (Y := fun _ => False) (by simp)
                  refine ⟨fU1, ?_⟩
                  generalize V15.alloc (.cells #[.int .i64 x] 2) = U1 at *
                  generalize hgA : V15.heap.size = gA at *
                  clear hgA
                  refine wpAnyK_two (i := 7) (j := 11) (by kernel_rfl) rfl rfl rfl rfl ?_ ?_
                  · refine wp_call_to (some 75) rfl 17 #[.slice (some ⟨gA, 0, none⟩) 1 1] (by go_simp) (text_any gA 1 [x] 1 rfl U1 hA lA (by omega)) ?_
                    rintro e U2 ⟨rfl, fxU2⟩
                    have fU2 := (fU1.trans fxU2).mono (Y := fun _ => False) (by simp)
                    refine ⟨_, rfl, fun _ => fU2, ?_⟩
                    simp only [Act.put, List.setIfInBounds_toArray, List.set_cons_zero, List.set_cons_succ]
                    refine wpAnyK_one (i := 11) (by kernel_rfl) rfl rfl ?_
                    go_simp
                    have hB := intsAt_new U2 [x, hi] 2 #[.int .i64 x, .int .i64 hi] rfl
                    have lB : U2.heap.size < (U2.alloc (.cells #[.int .i64 x, .int .i64 hi] 2)).heap.size := by simp
                    have fU3 := (fU2.trans (Fr.alloc U2 (.cells #[.int .i64 x, .int .i64 hi] 2) (fun _ => False))).mono (Y := fun _ => False) (by simp)
                    refine ⟨fU3, ?_⟩
                    generalize U2.alloc (.cells #[.int .i64 x, .int .i64 hi] 2) = U3 at *
                    generalize hgB : U2.heap.size = gB at *
                    clear hgB
                    refine wpAnyK_one (i := 12) (by kernel_rfl) rfl rfl ?_
                    refine wp_call_to (some 80) rfl 17 #[.slice (some ⟨gB, 0, none⟩) 2 2] (by go_simp) (text_any gB 2 [x, hi] 2 rfl U3 hB lB (by omega)) ?_
                    rintro e U4 ⟨rfl, fxU4⟩
                    have fU4 := (fU3.trans fxU4).mono (Y := fun _ => False) (by simp)
                    refine ⟨_, rfl, fun _ => fU4, ?_⟩
                    simp only [Act.put, List.setIfInBounds_toArray, List.set_cons_zero, List.set_cons_succ]
                    refine wpAnyK_one (i := 13) (by kernel_rfl) rfl rfl ?_
                    refine wp_call_to (some 81) rfl 22 #[.pointer (some ⟨fb, 0, none⟩), .string (txt [x]), .string (txt [x, hi]), .pointer (some ⟨bx, 0, none⟩)] (by go_simp) (HSTEP.out U4 (HSV.out.fresh fU4)) ?_
                    rintro e W9 ⟨rfl, s9⟩
                    refine ⟨_, rfl, fun h => by simp at h, ?_⟩
                    simp only [Act.put, List.setIfInBounds_toArray, List.set_cons_zero, List.set_cons_succ]
                    exact wpAnyK_done (by kernel_rfl) (HK _ _ ⟨gA, gB, by simp only [Act.put, List.setIfInBounds_toArray, List.set_cons_zero, List.set_cons_succ], s9⟩) _

                  · replace hA := IntsAt.fr hA (Fr.alloc U1 (.cells #[.int .i64 x, .int .i64 hi] 2) (fun _ => False)) (fun h => h) lA
                    replace lA : gA < (U1.alloc (.cells #[.int .i64 x, .int .i64 hi] 2)).heap.size := by simp; omega
                    go_simp
                    have hB := intsAt_new U1 [x, hi] 2 #[.int .i64 x, .int .i64 hi] rfl
                    have lB : U1.heap.size < (U1.alloc (.cells #[.int .i64 x, .int .i64 hi] 2)).heap.size := by simp
                    have fU2 := (fU1.trans (Fr.alloc U1 (.cells #[.int .i64 x, .int .i64 hi] 2) (fun _ => False))).mono (Y := fun _ => False) (by simp)
                    refine ⟨fU2, ?_⟩
                    generalize U1.alloc (.cells #[.int .i64 x, .int .i64 hi] 2) = U2 at *
                    generalize hgB : U1.heap.size = gB at *
                    clear hgB
                    refine wpAnyK_one (i := 7) (by kernel_rfl) rfl rfl ?_
                    refine wp_call_to (some 75) rfl 17 #[.slice (some ⟨gA, 0, none⟩) 1 1] (by go_simp) (text_any gA 1 [x] 1 rfl U2 hA lA (by omega)) ?_
                    rintro e U3 ⟨rfl, fxU3⟩
                    have fU3 := (fU2.trans fxU3).mono (Y := fun _ => False) (by simp)
                    refine ⟨_, rfl, fun _ => fU3, ?_⟩
                    replace hB := IntsAt.fr hB fxU3 (fun h => h) lB
                    replace lB := Nat.lt_of_lt_of_le lB fxU3.size
                    simp only [Act.put, List.setIfInBounds_toArray, List.set_cons_zero, List.set_cons_succ]
                    refine wpAnyK_one (i := 12) (by kernel_rfl) rfl rfl ?_
                    refine wp_call_to (some 80) rfl 17 #[.slice (some ⟨gB, 0, none⟩) 2 2] (by go_simp) (text_any gB 2 [x, hi] 2 rfl U3 hB lB (by omega)) ?_
                    rintro e U4 ⟨rfl, fxU4⟩
                    have fU4 := (fU3.trans fxU4).mono (Y := fun _ => False) (by simp)
                    refine ⟨_, rfl, fun _ => fU4, ?_⟩
                    simp only [Act.put, List.setIfInBounds_toArray, List.set_cons_zero, List.set_cons_succ]
                    refine wpAnyK_one (i := 13) (by kernel_rfl) rfl rfl ?_
                    refine wp_call_to (some 81) rfl 22 #[.pointer (some ⟨fb, 0, none⟩), .string (txt [x]), .string (txt [x, hi]), .pointer (some ⟨bx, 0, none⟩)] (by go_simp) (HSTEP.out U4 (HSV.out.fresh fU4)) ?_
                    rintro e W9 ⟨rfl, s9⟩
                    refine ⟨_, rfl, fun h => by simp at h, ?_⟩
                    simp only [Act.put, List.setIfInBounds_toArray, List.set_cons_zero, List.set_cons_succ]
                    exact wpAnyK_done (by kernel_rfl) (HK _ _ ⟨gA, gB, by simp only [Act.put, List.setIfInBounds_toArray, List.set_cons_zero, List.set_cons_succ], s9⟩) _


                · go_simp
                  have hB := intsAt_new V15 [x, hi] 2 #[.int .i64 x, .int .i64 hi] rfl
                  have lB : V15.heap.size < (V15.alloc (.cells #[.int .i64 x, .int .i64 hi] 2)).heap.size := by simp
                  have fU1 := ((Fr.refl V15 (fun _ => False)).trans (Fr.alloc V15 (.cells #[.int .i64 x, .int .i64 hi] 2) (fun _ => False))).mono (Y := fun _ => False) (by simp)
                  refine ⟨fU1, ?_⟩
                  generalize V15.alloc (.cells #[.int .i64 x, .int .i64 hi] 2) = U1 at *
                  generalize hgB : V15.heap.size = gB at *
                  clear hgB
                  refine wpAnyK_one (i := 6) (by kernel_rfl) rfl rfl ?_
                  replace hB := IntsAt.fr hB (Fr.alloc U1 (.cells #[.int .i64 x] 2) (fun _ => False)) (fun h => h) lB
                  replace lB : gB < (U1.alloc (.cells #[.int .i64 x] 2)).heap.size := by simp; omega
                  go_simp
                  have hA := intsAt_new U1 [x] 2 #[.int .i64 x] rfl
                  have lA : U1.heap.size < (U1.alloc (.cells #[.int .i64 x] 2)).heap.size := by simp
                  have fU2 := (fU1.trans (Fr.alloc U1 (.cells #[.int .i64 x] 2) (fun _ => False))).mono (Y := fun _ => False) (by simp)
                  refine ⟨fU2, ?_⟩
                  generalize U1.alloc (.cells #[.int .i64 x] 2) = U2 at *
                  generalize hgA : U1.heap.size = gA at *
                  clear hgA
                  refine wpAnyK_one (i := 7) (by kernel_rfl) rfl rfl ?_
                  refine wp_call_to (some 75) rfl 17 #[.slice (some ⟨gA, 0, none⟩) 1 1] (by go_simp) (text_any gA 1 [x] 1 rfl U2 hA lA (by omega)) ?_
                  rintro e U3 ⟨rfl, fxU3⟩
                  have fU3 := (fU2.trans fxU3).mono (Y := fun _ => False) (by simp)
                  refine ⟨_, rfl, fun _ => fU3, ?_⟩
                  replace hB := IntsAt.fr hB fxU3 (fun h => h) lB
                  replace lB := Nat.lt_of_lt_of_le lB fxU3.size
                  simp only [Act.put, List.setIfInBounds_toArray, List.set_cons_zero, List.set_cons_succ]
                  refine wpAnyK_one (i := 12) (by kernel_rfl) rfl rfl ?_
                  refine wp_call_to (some 80) rfl 17 #[.slice (some ⟨gB, 0, none⟩) 2 2] (by go_simp) (text_any gB 2 [x, hi] 2 rfl U3 hB lB (by omega)) ?_
                  rintro e U4 ⟨rfl, fxU4⟩
                  have fU4 := (fU3.trans fxU4).mono (Y := fun _ => False) (by simp)
                  refine ⟨_, rfl, fun _ => fU4, ?_⟩
                  simp only [Act.put, List.setIfInBounds_toArray, List.set_cons_zero, List.set_cons_succ]
                  refine wpAnyK_one (i := 13) (by kernel_rfl) rfl rfl ?_
                  refine wp_call_to (some 81) rfl 22 #[.pointer (some ⟨fb, 0, none⟩), .string (txt [x]), .string (txt [x, hi]), .pointer (some ⟨bx, 0, none⟩)] (by go_simp) (HSTEP.out U4 (HSV.out.fresh fU4)) ?_
                  rintro e W9 ⟨rfl, s9⟩
                  refine ⟨_, rfl, fun h => by simp at h, ?_⟩
                  simp only [Act.put, List.setIfInBounds_toArray, List.set_cons_zero, List.set_cons_succ]
                  exact wpAnyK_done (by kernel_rfl) (HK _ _ ⟨gA, gB, by simp only [Act.put, List.setIfInBounds_toArray, List.set_cons_zero, List.set_cons_succ], s9⟩) _


            · obtain rfl : j = n2 := by omega
              have HC3 : Hid (C2 = gath ⟨lo, hi⟩ FF FT) := hide (by rw [HC2.out, HC0.out, List.take_of_length_le (by rw [← HN2.out]; omega), gath_eq, HLL.out, HRR2.out, List.append_assoc])
              obtain ⟨v, hvb, hvo⟩ := HSO.out.bxv
              have hvB := ownsRow_ge hvo
              have hvn := hvb.not_row (by decide) hvo
              have hvo2 : OwnI w8 v C2 := ownsRow_base hvo (Nat.zero_le _)
              have HS := hide (sortI_any v C2 w8 hvo2 (by have := HCL2.out; omega))
              have cb := hvb.cell
              have HVB := hide hvb
              have HVB2 := hide hvB
              have HVN := hide hvn
              clear hvb hvo hvo2 hvB hvn
              go_wp2_with fail
              refine HS.out.mono ?_
              rintro e w9 ⟨rfl, o9, f9⟩
              have hb9 : w9.heap[bx]? = some (.cells #[v] 25 (0, 0)) := by
                rw [f9.block bx HVB.out.lt (fun h => HVN.out (show some bx = v.ownBlock from Eq.symm h))]; exact HVB.out
              have cb9 : w9.cell? ⟨bx, 0, none⟩ = some v := (cell_of_row _ _ _ _ _ _ hb9).trans rfl
              have HRES : Hid (Q (.returned (.tuple #[v, .int .i64 0])) w9) := hide (by
                rw [HQ.out]
                have hw8 := HSO.out
                have hfz : Fr w w8 (fun k => k = fb ∨ k = tb) := (HF2.out.trans hw8.fr).mono (fun k _ h => by rcases h with h | h; exact h.elim; exact h)
                have hb0 := HSA.out.b0
                have hsz := HF2.out.size
                obtain ⟨k1, k2, k3⟩ := HRR.out
                have hnw : ∀ k, v.ownBlock = some k → w.heap.size ≤ k := fun k hk => by have := HVB2.out k hk; omega
                have hne : ∀ k, k < w.heap.size → v.ownBlock ≠ some k := fun k hk h => by have := hnw k h; omega
                obtain ⟨d1, t1, e1, x1⟩ := hw8.tf
                obtain ⟨d2, t2, e2, x2⟩ := hw8.tt
                have tx1 : ∀ k, TX fb d1 k ↔ TX fb dF k := fun k => by unfold TX; rw [x1]
                have tx2 : ∀ k, TX tb d2 k ↔ TX tb dT k := fun k => by unfold TX; rw [x2]
                have ltF : ∀ k, TX fb dF k → k < w.heap.size := fun k hk => (HRT.out.lt k ((HX.out k).2 (.inr (.inr (.inl hk))))).2
                have ltT : ∀ k, TX tb dT k → k < w.heap.size := fun k hk => (HRT.out.lt k ((HX.out k).2 (.inr (.inr (.inr hk))))).2
                refine ⟨v, srt C2, by rw [HCODE.out], o9, fun _ => ?_, fun h => ?_, hnw, ?_, ?_⟩
                · rw [HC3.out]
                  exact ⟨srt_rising (gath_nodup k1 k2 k3.1 k3.2 HSRT.out.1 HSRT.out.2 HR.out), fun i => (List.Perm.mem_iff (srt_perm _)).trans (mem_gath k1 k2 k3.1 k3.2 HR.out i)⟩
                · have h1 := HR.out; rw [h] at h1; cases h1
                · refine ⟨gm, fb, tb, d1, d2, _, _, ?_, hw8.mp.fr f9 (hne gm HLT.out.2), t1.fr f9 (fun k hk => hne k (ltF k ((tx1 k).1 hk))), t2.fr f9 (fun k hk => hne k (ltT k ((tx2 k).1 hk))), by rw [e1]; exact k1, by rw [e2]; exact k2, k3, ?_, ?_, HBS.out, fun k => by rw [HX.out k, tx1 k, tx2 k]⟩
                  · rw [f9.block gt (Array.getElem?_eq_some_iff.1 hw8.row).1 (hne gt HLT.out.1)]; exact hw8.row
                  · have h1 := HBD.out; have h2 := HLL41.out; have h3 := HRR41.out; rw [e1, e2]; omega
                  · obtain ⟨a1, a2, a3, a4, a5, a6⟩ := HAP.out
                    exact ⟨a1, fun h => a2 ((tx1 _).1 h), fun h => a3 ((tx2 _).1 h), fun h => a4 ((tx1 _).1 h), fun h => a5 ((tx2 _).1 h), fun k h h' => a6 k ((tx1 k).1 h) ((tx2 k).1 h')⟩
                · refine (hfz.trans f9).mono (fun k hk h => (HX.out k).2 ?_)
                  rcases h with (h | h) | h
                  · exact .inr (.inr (.inl (.inl h)))
                  · exact .inr (.inr (.inr (.inl h)))
                  · exact absurd h (hne k hk))
              clear o9 f9 HS hb9 cb
              go_wp2
              first | exact HRES.out | (go_ret; exact HRES.out)
        · intro HK
          have hS : (fun U : World => Fr V11 U (fun _ => False)) V11 := Fr.refl _ _
          refine wpAnyK_takeTo 0 (some 48) (.func (.func 22) #[] #[.pointer (some ⟨bx, 0, none⟩)]) [13] rfl rfl (by kernel_rfl) (by kernel_rfl) (by kernel_rfl) (by kernel_rfl) (fun _ _ _ h => h) hS (Or.inl ⟨rfl, fun w1 hw1 => by obtain ⟨c0, x1, x2, y0, y1⟩ := (HSV.out.fresh (hw1 : Fr V11 w1 (fun _ => False))).cells; first | (go_simp; done) | (go_simp; exact wraps_i64 _ (by omega) (by omega)) | (go_simp; exact congrArg _ (wraps_i64 _ (by omega) (by omega)))⟩) ?_
          simp only [Act.put, List.setIfInBounds_toArray, List.set_cons_zero, List.set_cons_succ]
          refine wpAnyK_takeTo 1 (some 49) (.pointer (some ⟨gt, 0, none⟩)) [2, 3, 4, 13] rfl rfl (by kernel_rfl) (by kernel_rfl) (by kernel_rfl) (by kernel_rfl) (fun _ _ _ h => h) hS (Or.inl ⟨rfl, fun w1 hw1 => by obtain ⟨c0, x1, x2, y0, y1⟩ := (HSV.out.fresh (hw1 : Fr V11 w1 (fun _ => False))).cells; first | (go_simp; done) | (go_simp; exact wraps_i64 _ (by omega) (by omega)) | (go_simp; exact congrArg _ (wraps_i64 _ (by omega) (by omega)))⟩) ?_
          simp only [Act.put, List.setIfInBounds_toArray, List.set_cons_zero, List.set_cons_succ]
          refine wpAnyK_takeTo 2 (some 50) (.pointer (some ⟨gt, 0, none⟩)) [3, 4, 13] rfl rfl (by kernel_rfl) (by kernel_rfl) (by kernel_rfl) (by kernel_rfl) (fun _ _ _ h => h) hS (Or.inl ⟨rfl, fun w1 hw1 => by obtain ⟨c0, x1, x2, y0, y1⟩ := (HSV.out.fresh (hw1 : Fr V11 w1 (fun _ => False))).cells; first | (go_simp; done) | (go_simp; exact wraps_i64 _ (by omega) (by omega)) | (go_simp; exact congrArg _ (wraps_i64 _ (by omega) (by omega)))⟩) ?_
          simp only [Act.put, List.setIfInBounds_toArray, List.set_cons_zero, List.set_cons_succ]
          refine wpAnyK_takeTo 3 (some 51) (.pointer (some ⟨gt, 1, none⟩)) [4, 13] rfl rfl (by kernel_rfl) (by kernel_rfl) (by kernel_rfl) (by kernel_rfl) (fun _ _ _ h => h) hS (Or.inl ⟨rfl, fun w1 hw1 => by obtain ⟨c0, x1, x2, y0, y1⟩ := (HSV.out.fresh (hw1 : Fr V11 w1 (fun _ => False))).cells; first | (go_simp; done) | (go_simp; exact wraps_i64 _ (by omega) (by omega)) | (go_simp; exact congrArg _ (wraps_i64 _ (by omega) (by omega)))⟩) ?_
          simp only [Act.put, List.setIfInBounds_toArray, List.set_cons_zero, List.set_cons_succ]
          refine wpAnyK_takeTo 4 (some 52) (.pointer (some ⟨fb, 0, none⟩)) [13] rfl rfl (by kernel_rfl) (by kernel_rfl) (by kernel_rfl) (by kernel_rfl) (fun _ _ _ h => h) hS (Or.inl ⟨rfl, fun w1 hw1 => by obtain ⟨c0, x1, x2, y0, y1⟩ := (HSV.out.fresh (hw1 : Fr V11 w1 (fun _ => False))).cells; first | (go_simp; done) | (go_simp; exact wraps_i64 _ (by omega) (by omega)) | (go_simp; exact congrArg _ (wraps_i64 _ (by omega) (by omega)))⟩) ?_
          simp only [Act.put, List.setIfInBounds_toArray, List.set_cons_zero, List.set_cons_succ]
          refine wpAnyK_takeTo 5 (some 53) (.pointer (some ⟨g, 0, none⟩)) [6, 7, 8, 12, 13] rfl rfl (by kernel_rfl) (by kernel_rfl) (by kernel_rfl) (by kernel_rfl) (fun _ _ _ h => h) hS (Or.inl ⟨rfl, fun w1 hw1 => by obtain ⟨c0, x1, x2, y0, y1⟩ := (HSV.out.fresh (hw1 : Fr V11 w1 (fun _ => False))).cells; first | (go_simp; done) | (go_simp; exact wraps_i64 _ (by omega) (by omega)) | (go_simp; exact congrArg _ (wraps_i64 _ (by omega) (by omega)))⟩) ?_
          simp only [Act.put, List.setIfInBounds_toArray, List.set_cons_zero, List.set_cons_succ]
          refine wpAnyK_takeTo 6 (some 54) (.int .i64 lo) [7, 8, 12, 13] rfl rfl (by kernel_rfl) (by kernel_rfl) (by kernel_rfl) (by kernel_rfl) (fun _ _ _ h => h) hS (Or.inl ⟨rfl, fun w1 hw1 => by obtain ⟨c0, x1, x2, y0, y1⟩ := (HSV.out.fresh (hw1 : Fr V11 w1 (fun _ => False))).cells; first | (go_simp; done) | (go_simp; exact wraps_i64 _ (by omega) (by omega)) | (go_simp; exact congrArg _ (wraps_i64 _ (by omega) (by omega)))⟩) ?_
          simp only [Act.put, List.setIfInBounds_toArray, List.set_cons_zero, List.set_cons_succ]
          refine wpAnyK_takeTo 9 (some 57) (.pointer (some ⟨g, 1, none⟩)) [10, 11, 12, 13] rfl rfl (by kernel_rfl) (by kernel_rfl) (by kernel_rfl) (by kernel_rfl) (fun _ _ _ h => h) hS (Or.inl ⟨rfl, fun w1 hw1 => by obtain ⟨c0, x1, x2, y0, y1⟩ := (HSV.out.fresh (hw1 : Fr V11 w1 (fun _ => False))).cells; first | (go_simp; done) | (go_simp; exact wraps_i64 _ (by omega) (by omega)) | (go_simp; exact congrArg _ (wraps_i64 _ (by omega) (by omega)))⟩) ?_
          simp only [Act.put, List.setIfInBounds_toArray, List.set_cons_zero, List.set_cons_succ]
          refine wpAnyK_takeTo 10 (some 58) (.int .i64 hi) [11, 12, 13] rfl rfl (by kernel_rfl) (by kernel_rfl) (by kernel_rfl) (by kernel_rfl) (fun _ _ _ h => h) hS (Or.inl ⟨rfl, fun w1 hw1 => by obtain ⟨c0, x1, x2, y0, y1⟩ := (HSV.out.fresh (hw1 : Fr V11 w1 (fun _ => False))).cells; first | (go_simp; done) | (go_simp; exact wraps_i64 _ (by omega) (by omega)) | (go_simp; exact congrArg _ (wraps_i64 _ (by omega) (by omega)))⟩) ?_
          simp only [Act.put, List.setIfInBounds_toArray, List.set_cons_zero, List.set_cons_succ]
          clear hS
          refine wpAnyK_two (i := 7) (j := 11) (by kernel_rfl) rfl rfl rfl rfl ?_ ?_
          · go_simp
            have hA := intsAt_new V11 [lo] 2 #[.int .i64 lo] rfl
            have lA : V11.heap.size < (V11.alloc (.cells #[.int .i64 lo] 2)).heap.size := by simp
            have fU1 := ((Fr.refl V11 (fun _ => False)).trans (Fr.alloc V11 (.cells #[.int .i64 lo] 2) (fun _ => False))).mono (Y := fun _ => False) (by simp)
            refine ⟨fU1, ?_⟩
            generalize V11.alloc (.cells #[.int .i64 lo] 2) = U1 at *
            generalize hgA : V11.heap.size = gA at *
            clear hgA
            refine wpAnyK_two (i := 8) (j := 11) (by kernel_rfl) rfl rfl rfl rfl ?_ ?_
            · refine wp_call_to (some 56) rfl 17 #[.slice (some ⟨gA, 0, none⟩) 1 1] (by go_simp) (text_any gA 1 [lo] 1 rfl U1 hA lA (by omega)) ?_
              rintro e U2 ⟨rfl, fxU2⟩
              have fU2 := (fU1.trans fxU2).mono (Y := fun _ => False) (by simp)
              refine ⟨_, rfl, fun _ => fU2, ?_⟩
              simp only [Act.put, List.setIfInBounds_toArray, List.set_cons_zero, List.set_cons_succ]
              refine wpAnyK_one (i := 11) (by kernel_rfl) rfl rfl ?_
              go_simp
              have hB := intsAt_new U2 [hi] 2 #[.int .i64 hi] rfl
              have lB : U2.heap.size < (U2.alloc (.cells #[.int .i64 hi] 2)).heap.size := by simp
              have fU3 := (fU2.trans (Fr.alloc U2 (.cells #[.int .i64 hi] 2) (fun _ => False))).mono (Y := fun _ => False) (by simp)
              refine ⟨fU3, ?_⟩
              generalize U2.alloc (.cells #[.int .i64 hi] 2) = U3 at *
              generalize hgB : U2.heap.size = gB at *
              clear hgB
              refine wpAnyK_one (i := 12) (by kernel_rfl) rfl rfl ?_
              refine wp_call_to (some 60) rfl 17 #[.slice (some ⟨gB, 0, none⟩) 1 1] (by go_simp) (text_any gB 1 [hi] 1 rfl U3 hB lB (by omega)) ?_
              rintro e U4 ⟨rfl, fxU4⟩
              have fU4 := (fU3.trans fxU4).mono (Y := fun _ => False) (by simp)
              refine ⟨_, rfl, fun _ => fU4, ?_⟩
              simp only [Act.put, List.setIfInBounds_toArray, List.set_cons_zero, List.set_cons_succ]
              refine wpAnyK_one (i := 13) (by kernel_rfl) rfl rfl ?_
              refine wp_call_to (some 61) rfl 22 #[.pointer (some ⟨fb, 0, none⟩), .string (txt [lo]), .string (txt [hi]), .pointer (some ⟨bx, 0, none⟩)] (by go_simp) (HSTEP.out U4 (HSV.out.fresh fU4)) ?_
              rintro e W9 ⟨rfl, s9⟩
              refine ⟨_, rfl, fun h => by simp at h, ?_⟩
              simp only [Act.put, List.setIfInBounds_toArray, List.set_cons_zero, List.set_cons_succ]
              exact wpAnyK_done (by kernel_rfl) (HK _ _ ⟨gA, gB, by simp only [Act.put, List.setIfInBounds_toArray, List.set_cons_zero, List.set_cons_succ], s9⟩) _

            · replace hA := IntsAt.fr hA (Fr.alloc U1 (.cells #[.int .i64 hi] 2) (fun _ => False)) (fun h => h) lA
              replace lA : gA < (U1.alloc (.cells #[.int .i64 hi] 2)).heap.size := by simp; omega
              go_simp
              have hB := intsAt_new U1 [hi] 2 #[.int .i64 hi] rfl
              have lB : U1.heap.size < (U1.alloc (.cells #[.int .i64 hi] 2)).heap.size := by simp
              have fU2 := (fU1.trans (Fr.alloc U1 (.cells #[.int .i64 hi] 2) (fun _ => False))).mono (Y := fun _ => False) (by simp)
              refine ⟨fU2, ?_⟩
              generalize U1.alloc (.cells #[.int .i64 hi] 2) = U2 at *
              generalize hgB : U1.heap.size = gB at *
              clear hgB
              refine wpAnyK_one (i := 8) (by kernel_rfl) rfl rfl ?_
              refine wp_call_to (some 56) rfl 17 #[.slice (some ⟨gA, 0, none⟩) 1 1] (by go_simp) (text_any gA 1 [lo] 1 rfl U2 hA lA (by omega)) ?_
              rintro e U3 ⟨rfl, fxU3⟩
              have fU3 := (fU2.trans fxU3).mono (Y := fun _ => False) (by simp)
              refine ⟨_, rfl, fun _ => fU3, ?_⟩
              replace hB := IntsAt.fr hB fxU3 (fun h => h) lB
              replace lB := Nat.lt_of_lt_of_le lB fxU3.size
              simp only [Act.put, List.setIfInBounds_toArray, List.set_cons_zero, List.set_cons_succ]
              refine wpAnyK_one (i := 12) (by kernel_rfl) rfl rfl ?_
              refine wp_call_to (some 60) rfl 17 #[.slice (some ⟨gB, 0, none⟩) 1 1] (by go_simp) (text_any gB 1 [hi] 1 rfl U3 hB lB (by omega)) ?_
              rintro e U4 ⟨rfl, fxU4⟩
              have fU4 := (fU3.trans fxU4).mono (Y := fun _ => False) (by simp)
              refine ⟨_, rfl, fun _ => fU4, ?_⟩
              simp only [Act.put, List.setIfInBounds_toArray, List.set_cons_zero, List.set_cons_succ]
              refine wpAnyK_one (i := 13) (by kernel_rfl) rfl rfl ?_
              refine wp_call_to (some 61) rfl 22 #[.pointer (some ⟨fb, 0, none⟩), .string (txt [lo]), .string (txt [hi]), .pointer (some ⟨bx, 0, none⟩)] (by go_simp) (HSTEP.out U4 (HSV.out.fresh fU4)) ?_
              rintro e W9 ⟨rfl, s9⟩
              refine ⟨_, rfl, fun h => by simp at h, ?_⟩
              simp only [Act.put, List.setIfInBounds_toArray, List.set_cons_zero, List.set_cons_succ]
              exact wpAnyK_done (by kernel_rfl) (HK _ _ ⟨gA, gB, by simp only [Act.put, List.setIfInBounds_toArray, List.set_cons_zero, List.set_cons_succ], s9⟩) _


          · go_simp
            have hB := intsAt_new V11 [hi] 2 #[.int .i64 hi] rfl
            have lB : V11.heap.size < (V11.alloc (.cells #[.int .i64 hi] 2)).heap.size := by simp
            have fU1 := ((Fr.refl V11 (fun _ => False)).trans (Fr.alloc V11 (.cells #[.int .i64 hi] 2) (fun _ => False))).mono (Y := fun _ => False) (by simp)
            refine ⟨fU1, ?_⟩
            generalize V11.alloc (.cells #[.int .i64 hi] 2) = U1 at *
            generalize hgB : V11.heap.size = gB at *
            clear hgB
            refine wpAnyK_one (i := 7) (by kernel_rfl) rfl rfl ?_
            replace hB := IntsAt.fr hB (Fr.alloc U1 (.cells #[.int .i64 lo] 2) (fun _ => False)) (fun h => h) lB
            replace lB : gB < (U1.alloc (.cells #[.int .i64 lo] 2)).heap.size := by simp; omega
            go_simp
            have hA := intsAt_new U1 [lo] 2 #[.int .i64 lo] rfl
            have lA : U1.heap.size < (U1.alloc (.cells #[.int .i64 lo] 2)).heap.size := by simp
            have fU2 := (fU1.trans (Fr.alloc U1 (.cells #[.int .i64 lo] 2) (fun _ => False))).mono (Y := fun _ => False) (by simp)
            refine ⟨fU2, ?_⟩
            generalize U1.alloc (.cells #[.int .i64 lo] 2) = U2 at *
            generalize hgA : U1.heap.size = gA at *
            clear hgA
            refine wpAnyK_one (i := 8) (by kernel_rfl) rfl rfl ?_
            refine wp_call_to (some 56) rfl 17 #[.slice (some ⟨gA, 0, none⟩) 1 1] (by go_simp) (text_any gA 1 [lo] 1 rfl U2 hA lA (by omega)) ?_
            rintro e U3 ⟨rfl, fxU3⟩
            have fU3 := (fU2.trans fxU3).mono (Y := fun _ => False) (by simp)
            refine ⟨_, rfl, fun _ => fU3, ?_⟩
            replace hB := IntsAt.fr hB fxU3 (fun h => h) lB
            replace lB := Nat.lt_of_lt_of_le lB fxU3.size
            simp only [Act.put, List.setIfInBounds_toArray, List.set_cons_zero, List.set_cons_succ]
            refine wpAnyK_one (i := 12) (by kernel_rfl) rfl rfl ?_
            refine wp_call_to (some 60) rfl 17 #[.slice (some ⟨gB, 0, none⟩) 1 1] (by go_simp) (text_any gB 1 [hi] 1 rfl U3 hB lB (by omega)) ?_
            rintro e U4 ⟨rfl, fxU4⟩
            have fU4 := (fU3.trans fxU4).mono (Y := fun _ => False) (by simp)
            refine ⟨_, rfl, fun _ => fU4, ?_⟩
            simp only [Act.put, List.setIfInBounds_toArray, List.set_cons_zero, List.set_cons_succ]
            refine wpAnyK_one (i := 13) (by kernel_rfl) rfl rfl ?_
            refine wp_call_to (some 61) rfl 22 #[.pointer (some ⟨fb, 0, none⟩), .string (txt [lo]), .string (txt [hi]), .pointer (some ⟨bx, 0, none⟩)] (by go_simp) (HSTEP.out U4 (HSV.out.fresh fU4)) ?_
            rintro e W9 ⟨rfl, s9⟩
            refine ⟨_, rfl, fun h => by simp at h, ?_⟩
            simp only [Act.put, List.setIfInBounds_toArray, List.set_cons_zero, List.set_cons_succ]
            exact wpAnyK_done (by kernel_rfl) (HK _ _ ⟨gA, gB, by simp only [Act.put, List.setIfInBounds_toArray, List.set_cons_zero, List.set_cons_succ], s9⟩) _


  · have hr' : rightB ⟨lo, hi⟩ = false := by simpa using hr
    have hcode := codeP_no _ hr'
    rw [hcode]
    have HRES : Hid (Q (.returned (.tuple #[.slice none 0 0, .int .i64 40])) W2) := hide (by
      rw [HQ.out]
      exact ⟨_, [], by rw [hcode], OwnI.nil _, fun h => absurd h hr, fun _ => rfl, (fun k hk => by cases hk), HRT2.out.mono (by omega), HF2.out.mono (fun _ _ h => h.elim)⟩)
    clear hr hr' hcode
    go_wp2
    first | exact HRES.out | (go_ret; exact HRES.out)
end Go.Proofs.YtigkinakhijfoaaGreat
