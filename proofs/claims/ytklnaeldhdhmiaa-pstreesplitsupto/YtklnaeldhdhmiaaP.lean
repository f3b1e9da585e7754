/- The walk of PstreeSplits. -/
import Derived.Test.YtklnaeldhdhmiaaO
namespace Go.Proofs.Ytklnaeldhdhmiaa
open Go.RowKit Go.Sort
set_option maxRecDepth 100000
set_option linter.unusedVariables false
set_option linter.unusedSimpArgs false

def Same3 (w : World) (bs gt : Nat) (P : List Pt) (W : World) : Prop := ∃ X : Nat → Prop, TR W bs gt P X ∧ (∀ k, X k → bs ≤ k) ∧ Fr w W (fun k => bs ≤ k)
theorem Same3.fr {w W W' : World} {bs gt : Nat} {P : List Pt} (h : Same3 w bs gt P W) (hf : Fr W W' (fun _ => False)) : Same3 w bs gt P W' := by
  obtain ⟨X, h1, h2, h3⟩ := h
  exact ⟨X, h1.fr hf (fun _ _ h => h), h2, (h3.trans hf).mono (fun k _ h => by rcases h with h | h; exact h; exact h.elim)⟩
/-- A row of one's own that came later. -/
theorem Same3.row {w W W' : World} {bs gt : Nat} {P : List Pt} (h : Same3 w bs gt P W) {v : Value} (hf : Fr W W' (fun k => v.ownBlock = some k)) (hv : ∀ k, v.ownBlock = some k → bs ≤ k) (hx : ∀ X : Nat → Prop, TR W bs gt P X → ∀ k, X k → ¬ (v.ownBlock = some k)) : Same3 w bs gt P W' := by
  obtain ⟨X, h1, h2, h3⟩ := h
  exact ⟨X, h1.fr hf (fun k hk h => hx X h1 k hk h), h2, (h3.trans hf).mono (fun k _ h => by rcases h with h | h; exact h; exact hv k h)⟩
set_option maxHeartbeats 32000000 in
theorem splits_walk {w : World} (a : Option Addr) (n c : Nat) (L : List (Int × Int)) (lo mid hi l0 l1 : Int) (hmid : In64 mid) (hhi : In64 hi) (hL : PersIn w a L) (hn : L.length = n) (hnb : n ≤ 1048576) :
    Calls Try.prog 6 #[.slice a n c, .agg #[.int .i64 lo, .int .i64 mid, .int .i64 hi], .agg #[.int .i64 l0, .int .i64 l1]] w fun x w' => x = .returned (.bool true) ∧ Fr w w' (fun _ => False) := by
  have HL := hide hL
  have HN := hide hn
  have HMID := hide hmid
  have HHI := hide hhi
  clear hL hn hmid hhi
  obtain ⟨A, hA⟩ : ∃ A : Obj, A = .cells #[.int .i64 lo, .int .i64 mid, .int .i64 hi] 49 := ⟨_, rfl⟩
  obtain ⟨B, hB⟩ : ∃ B : Obj, B = .cells #[.int .i64 l0, .int .i64 l1] 50 := ⟨_, rfl⟩
  have b1 : ((w.alloc A).alloc B).heap[w.heap.size]? = some A := by rw [(Fr.alloc (w.alloc A) B (fun _ => False)).block _ (by simp) (fun h => h)]; exact heap_alloc_new w A
  have b2 : ((w.alloc A).alloc B).heap[w.heap.size + 1]? = some B := by have := heap_alloc_new (w.alloc A) B; rw [show (w.alloc A).heap.size = w.heap.size + 1 by simp] at this; exact this
  rw [hA] at b1
  rw [hB] at b2
  have HBX := hide (And.intro b1 b2)
  have HF0 := hide ((Fr.alloc w A (fun _ => False)).two (Fr.alloc _ B (fun _ => False)))
  have HA := hide hA
  have HB := hide hB
  clear hA hB b1 b2
  go_enter Try.func6, Try.ntmps6
  go_wp2_with fail
  rw [HA.out, HB.out] at HBX HF0
  generalize hgA : w.heap.size = gA at *
  have HGA := hide hgA
  clear hgA
  generalize (w.alloc (.cells #[.int .i64 lo, .int .i64 mid, .int .i64 hi] 49)).alloc (.cells #[.int .i64 l0, .int .i64 l1] 50) = W0 at *
  clear HA HB A B
  refine (awake_any W0).mono ?_
  rintro e W1 ⟨rfl, f1⟩
  have HF1 := hide (HF0.out.two f1)
  have HB1 : Hid (W1.heap[gA]? = some (.cells #[.int .i64 lo, .int .i64 mid, .int .i64 hi] 49) ∧ W1.heap[gA + 1]? = some (.cells #[.int .i64 l0, .int .i64 l1] 50)) := hide ⟨by rw [f1.block gA (Array.getElem?_eq_some_iff.1 HBX.out.1).1 (fun h => h)]; exact HBX.out.1, by rw [f1.block _ (Array.getElem?_eq_some_iff.1 HBX.out.2).1 (fun h => h)]; exact HBX.out.2⟩
  clear f1 HBX HF0
  go_wp2_with fail
  refine (new_any W1 W1.heap.size (Nat.le_refl _)).mono ?_
  rintro e W2 ⟨gt, X0, rfl, h2, hX0, f2⟩
  obtain ⟨bs, hbs⟩ : ∃ bs, W1.heap.size = bs := ⟨_, rfl⟩
  rw [hbs] at h2 hX0
  have HBS : Hid (gA + 2 ≤ bs) := hide (by have := (Array.getElem?_eq_some_iff.1 HB1.out.2).1; omega)
  have HS2 : Hid (Same3 w bs gt (ptsN L 0) W2) := hide ⟨X0, h2, hX0, (HF1.out.two f2).mono (fun _ _ h => h.elim)⟩
  have HB2 : Hid (W2.heap[gA]? = some (.cells #[.int .i64 lo, .int .i64 mid, .int .i64 hi] 49) ∧ W2.heap[gA + 1]? = some (.cells #[.int .i64 l0, .int .i64 l1] 50)) := hide ⟨by rw [f2.block gA (Array.getElem?_eq_some_iff.1 HB1.out.1).1 (fun h => h)]; exact HB1.out.1, by rw [f2.block _ (Array.getElem?_eq_some_iff.1 HB1.out.2).1 (fun h => h)]; exact HB1.out.2⟩
  clear h2 hX0 f2 hbs HF1 HB1
  go_wp2_with fail
  go_loopw [21] (fun ix wr => ∃ j : Nat, j ≤ n ∧ ix = .int .i64 (j : Int) ∧ Same3 w bs gt (ptsN L j) wr ∧ Fr W2 wr (fun k => bs ≤ k)) (fun ix _ => n - (intOf ix).toNat)
  case atStart => exact ⟨0, Nat.zero_le _, rfl, HS2.out, Fr.refl _ _⟩
  case round =>
    rename World => W
    obtain ⟨j, hj, rfl, hs, hfw⟩ := hrel
    have HS := hide hs
    have HFW := hide hfw
    clear hs hfw HS2
    rcases Nat.lt_or_ge j n with hlt | hge
    · obtain ⟨x, hx⟩ : ∃ x, L[j]? = some x := ⟨_, List.getElem?_eq_getElem (by rw [HN.out]; exact hlt)⟩
      obtain ⟨g, off, hg, hgl, c0, c1⟩ := HL.out j x hx
      have hgb : ¬ (bs ≤ g) := by have := HBS.out; have := HGA.out; omega
      obtain ⟨X, hT, hXX, hF⟩ := HS.out
      have d0 := hF.cell' hgb c0
      have d1 := hF.cell' hgb c1
      subst hg
      obtain ⟨x, y⟩ := x
      simp only at d0 d1
      have FA := Fr.alloc W (.cells #[.int .i64 x, .int .i64 y] 42) (fun _ => False)
      have hbn := heap_alloc_new W (.cells #[.int .i64 x, .int .i64 y] 42)
      have k0 : (W.alloc (.cells #[.int .i64 x, .int .i64 y] 42)).cell? ⟨W.heap.size, 0, none⟩ = some (.int .i64 x) := (cell_of_row _ _ _ _ _ _ hbn).trans rfl
      have k1 : (W.alloc (.cells #[.int .i64 x, .int .i64 y] 42)).cell? ⟨W.heap.size, 1, none⟩ = some (.int .i64 y) := (cell_of_row _ _ _ _ _ _ hbn).trans rfl
      have hbW : bs ≤ W.heap.size := by have := (hT.lt gt (by obtain ⟨gm, ra, t, S, _, _, _, _, _, _, _, _, _, _, _, h12⟩ := hT; exact (h12 gt).2 (.inl rfl))); omega
      have HAD := hide (addT_any (hT.fr FA (fun _ _ h => h)) ⟨x, y, (j : Int)⟩ (by constructor <;> simp <;> omega) ptsN_new (by rw [ptsN_length (by rw [HN.out]; omega)]; omega) (by have := FA.size; omega))
      have HPS := hide (ptsN_succ hx)
      have HXX := hide hXX
      have HF := hide hF
      have HFA := hide FA
      have HBW := hide hbW
      unfold Pt.agg at HAD
      clear hx hgl c0 c1 hgb hT hXX hF FA hbn hbW HS
      go_wp2_with fail
      refine HAD.out.mono ?_
      rintro e V ⟨rfl, ⟨X', hT', hX'⟩, hf'⟩
      have HNX : Hid (Same3 w bs gt (ptsN L (j + 1)) V ∧ Fr W2 V (fun k => bs ≤ k)) := hide (by
        have hFF := HFA.out.trans hf'
        refine ⟨⟨X', by rw [HPS.out]; exact hT', fun k hk => ?_, (HF.out.trans hFF).mono (fun k _ h => by rcases h with h | h | h; exact h; exact h.elim; exact HXX.out k h)⟩, (HFW.out.trans hFF).mono (fun k _ h => by rcases h with h | h | h; exact h; exact h.elim; exact HXX.out k h)⟩
        rcases hX' k hk with h | h
        · exact HXX.out k h
        · have := HFA.out.size; have := HBW.out; omega)
      clear hT' hX' hf' HAD HFA d0 d1 k0 k1
      go_wp2
      go_roundw
      case rel => exact ⟨j + 1, by omega, by go_num, HNX.out.1, HNX.out.2⟩
      case measure => simp [intOf]; omega
    · have e1 : n = j := by omega
      subst e1
      have HB3 : Hid (W.heap[gA]? = some (.cells #[.int .i64 lo, .int .i64 mid, .int .i64 hi] 49) ∧ W.heap[gA + 1]? = some (.cells #[.int .i64 l0, .int .i64 l1] 50)) := hide ⟨by rw [HFW.out.block gA (Array.getElem?_eq_some_iff.1 HB2.out.1).1 (fun h => by have h : bs ≤ gA := h; have := HBS.out; omega)]; exact HB2.out.1, by rw [HFW.out.block _ (Array.getElem?_eq_some_iff.1 HB2.out.2).1 (fun h => by have h : bs ≤ gA + 1 := h; have := HBS.out; omega)]; exact HB2.out.2⟩
      have HPL : Hid ((ptsN L n).length ≤ 1048576) := hide (by rw [ptsN_length (by rw [HN.out]; exact Nat.le_refl _)]; exact hnb)
      generalize ptsN L n = P at *
      clear HFW HB2 hge hj HL HN
      obtain ⟨X, hT, hXX, hF⟩ := HS.out
      have D0 := Fr.drew W (fun _ => False)
      have HT0 := hide (hT.fr D0 (fun _ _ h => h))
      have HX0 : Hid (∀ k, X k → bs ≤ k ∧ k < W.drew.heap.size) := hide (fun k hk => ⟨hXX k hk, (hT.lt k hk).2⟩)
      have HF0 : Hid (Fr w W.drew (fun k => bs ≤ k)) := hide ((hF.trans D0).mono (fun k _ h => by rcases h with h | h; exact h; exact h.elim))
      have HB4 : Hid (W.drew.heap[gA]? = some (.cells #[.int .i64 lo, .int .i64 mid, .int .i64 hi] 49) ∧ W.drew.heap[gA + 1]? = some (.cells #[.int .i64 l0, .int .i64 l1] 50)) := hide HB3.out
      have HEN : Hid (∀ k, k < w.heap.size → ¬ (bs ≤ k)) := hide (fun k hk h => by have := HBS.out; have := HGA.out; omega)
      clear HS HB3 hT hXX hF D0
      go_wp2_with fail
      refine wp_region_K (fun _ => true) (fun U : World => U = W.drew) (by kernel_rfl) ?_
      generalize W.drew = U at *
      have hS : (fun V : World => V = U) U := rfl
      have y0 : U.cell? ⟨gA, 0, none⟩ = some (.int .i64 lo) := (cell_of_row _ _ _ _ _ _ HB4.out.1).trans rfl
      have y1 : U.cell? ⟨gA, 1, none⟩ = some (.int .i64 mid) := (cell_of_row _ _ _ _ _ _ HB4.out.1).trans rfl
      have y2 : U.cell? ⟨gA, 2, none⟩ = some (.int .i64 hi) := (cell_of_row _ _ _ _ _ _ HB4.out.1).trans rfl
      have x0 : U.cell? ⟨gA + 1, 0, none⟩ = some (.int .i64 l0) := (cell_of_row _ _ _ _ _ _ HB4.out.2).trans rfl
      have x1 : U.cell? ⟨gA + 1, 1, none⟩ = some (.int .i64 l1) := (cell_of_row _ _ _ _ _ _ HB4.out.2).trans rfl
      refine wpAnyK_takeTo 0 (some 35) (.pointer (some ⟨gA, 0, none⟩)) [1, 6, 7, 8] rfl rfl (by kernel_rfl) (by kernel_rfl) (by kernel_rfl) (by kernel_rfl) (fun _ _ _ h => h) hS (Or.inl ⟨rfl, fun w1 hw1 => by have hw1 : w1 = U := hw1; subst hw1; go_simp⟩) ?_
      simp only [Act.put, List.setIfInBounds_toArray, List.set_cons_zero, List.set_cons_succ]
      refine wpAnyK_takeTo 1 (some 36) (.int .i64 lo) [6, 7, 8] rfl rfl (by kernel_rfl) (by kernel_rfl) (by kernel_rfl) (by kernel_rfl) (fun _ _ _ h => h) hS (Or.inl ⟨rfl, fun w1 hw1 => by have hw1 : w1 = U := hw1; subst hw1; go_simp⟩) ?_
      simp only [Act.put, List.setIfInBounds_toArray, List.set_cons_zero, List.set_cons_succ]
      refine wpAnyK_takeTo 2 (some 37) (.pointer (some ⟨gA, 1, none⟩)) [3, 7, 8] rfl rfl (by kernel_rfl) (by kernel_rfl) (by kernel_rfl) (by kernel_rfl) (fun _ _ _ h => h) hS (Or.inl ⟨rfl, fun w1 hw1 => by have hw1 : w1 = U := hw1; subst hw1; go_simp⟩) ?_
      simp only [Act.put, List.setIfInBounds_toArray, List.set_cons_zero, List.set_cons_succ]
      refine wpAnyK_takeTo 3 (some 38) (.int .i64 mid) [7, 8] rfl rfl (by kernel_rfl) (by kernel_rfl) (by kernel_rfl) (by kernel_rfl) (fun _ _ _ h => h) hS (Or.inl ⟨rfl, fun w1 hw1 => by have hw1 : w1 = U := hw1; subst hw1; go_simp⟩) ?_
      simp only [Act.put, List.setIfInBounds_toArray, List.set_cons_zero, List.set_cons_succ]
      refine wpAnyK_takeTo 4 (some 39) (.pointer (some ⟨gA, 2, none⟩)) [5, 8] rfl rfl (by kernel_rfl) (by kernel_rfl) (by kernel_rfl) (by kernel_rfl) (fun _ _ _ h => h) hS (Or.inl ⟨rfl, fun w1 hw1 => by have hw1 : w1 = U := hw1; subst hw1; go_simp⟩) ?_
      simp only [Act.put, List.setIfInBounds_toArray, List.set_cons_zero, List.set_cons_succ]
      refine wpAnyK_takeTo 5 (some 40) (.int .i64 hi) [8] rfl rfl (by kernel_rfl) (by kernel_rfl) (by kernel_rfl) (by kernel_rfl) (fun _ _ _ h => h) hS (Or.inl ⟨rfl, fun w1 hw1 => by have hw1 : w1 = U := hw1; subst hw1; go_simp⟩) ?_
      simp only [Act.put, List.setIfInBounds_toArray, List.set_cons_zero, List.set_cons_succ]
      clear hS
      refine wpAnyK_one (i := 6) (by kernel_rfl) rfl rfl ?_
      go_simp
      refine wpAnyK_one (i := 7) (by kernel_rfl) rfl rfl ?_
      go_simp
      refine wpAnyK_one (i := 8) (by kernel_rfl) rfl rfl ?_
      go_simp
      refine wpAnyK_done (by kernel_rfl) ?_ _
      clear y0 y1 y2
      by_cases q1 : lo > mid
      · have q1b : decide (lo > mid) = true := by simp [q1]
        by_cases q4 : lo ≥ hi
        · have q4b : decide (lo ≥ hi) = true := by simp [q4]
          go_wp2
          go_ret
          exact ⟨rfl, HF0.out.mono (fun k hk h => HEN.out k hk h)⟩
        · have q4b : decide (lo ≥ hi) = false := by simp; omega
          have HFI := hide (findT_any HT0.out (by have := HPL.out; omega) hi lo l0)
          go_wp2_with fail
          refine HFI.out.mono ?_
          rintro e V1 ⟨v1, T1, rfl, o1, p1, _, f1, _⟩
          obtain rfl := none_find (by omega) p1
          obtain ⟨a1, c1, rfl⟩ := shape_n o1
          have HEND : Hid (Fr w V1 (fun _ => False)) := hide ((HF0.out.trans f1).mono (fun k hk h => by rcases h with h | h; exact HEN.out k hk h; exact h))
          clear o1 p1 f1 HFI
          go_wp2
          go_ret
          exact ⟨rfl, HEND.out⟩
      · have q1b : decide (lo > mid) = false := by simp; omega
        by_cases q2 : mid ≥ hi
        · have q2b : decide (mid ≥ hi) = true := by simp [q2]
          by_cases q4 : lo ≥ hi
          · have q4b : decide (lo ≥ hi) = true := by simp [q4]
            go_wp2
            go_ret
            exact ⟨rfl, HF0.out.mono (fun k hk h => HEN.out k hk h)⟩
          · have q4b : decide (lo ≥ hi) = false := by simp; omega
            have HFI := hide (findT_any HT0.out (by have := HPL.out; omega) hi lo l0)
            go_wp2_with fail
            refine HFI.out.mono ?_
            rintro e V1 ⟨v1, T1, rfl, o1, p1, _, f1, _⟩
            obtain rfl := none_find (by omega) p1
            obtain ⟨a1, c1, rfl⟩ := shape_n o1
            have HEND : Hid (Fr w V1 (fun _ => False)) := hide ((HF0.out.trans f1).mono (fun k hk h => by rcases h with h | h; exact HEN.out k hk h; exact h))
            clear o1 p1 f1 HFI
            go_wp2
            go_ret
            exact ⟨rfl, HEND.out⟩
        · have q2b : decide (mid ≥ hi) = false := by simp; omega
          by_cases q3 : l0 > l1
          · have q3b : decide (l0 > l1) = true := by simp [q3]
            by_cases q4 : lo ≥ hi
            · have q4b : decide (lo ≥ hi) = true := by simp [q4]
              go_wp2
              go_ret
              exact ⟨rfl, HF0.out.mono (fun k hk h => HEN.out k hk h)⟩
            · have q4b : decide (lo ≥ hi) = false := by simp; omega
              have HFI := hide (findT_any HT0.out (by have := HPL.out; omega) hi lo l0)
              go_wp2_with fail
              refine HFI.out.mono ?_
              rintro e V1 ⟨v1, T1, rfl, o1, p1, _, f1, _⟩
              obtain rfl := none_find (by omega) p1
              obtain ⟨a1, c1, rfl⟩ := shape_n o1
              have HEND : Hid (Fr w V1 (fun _ => False)) := hide ((HF0.out.trans f1).mono (fun k hk h => by rcases h with h | h; exact HEN.out k hk h; exact h))
              clear o1 p1 f1 HFI
              go_wp2
              go_ret
              exact ⟨rfl, HEND.out⟩
          · have q3b : decide (l0 > l1) = false := by simp; omega
            have HFI := hide (findT_any HT0.out (by have := HPL.out; omega) lo hi l0)
            go_wp2_with fail
            refine HFI.out.mono ?_
            rintro e V1 ⟨v1, T1, rfl, o1, p1, s1, f1, k1⟩
            obtain ⟨a1, c1, rfl⟩ := shape_n o1
            have D1 := f1.two (Fr.drew V1 (fun _ => False))
            have HO1 := hide (OwnPt.fr o1 (Fr.drew V1 (fun _ => False)) (fun _ _ h => h))
            have HT1 := hide (HT0.out.fr D1 (fun _ _ h => h))
            have HF1 : Hid (Fr w V1.drew (fun k => bs ≤ k)) := hide ((HF0.out.trans D1).mono (fun k _ h => by rcases h with h | h; exact h; exact h.elim))
            have HP1 := hide (And.intro p1 s1)
            have HX1 : Hid (∀ k, X k → bs ≤ k ∧ k < V1.drew.heap.size) := hide (fun k hk => ⟨(HX0.out k hk).1, Nat.lt_of_lt_of_le (HX0.out k hk).2 D1.size⟩)
            have HBB : Hid (bs ≤ V1.drew.heap.size) := hide (by have h := HT1.out.lt gt (by obtain ⟨gm, ra, t, S, _, _, _, _, _, _, _, _, _, _, _, h12⟩ := HT1.out; exact (h12 gt).2 (.inl rfl)); omega)
            have HC1 : Hid (V1.drew.heap[gA + 1]? = some (.cells #[.int .i64 l0, .int .i64 l1] 50)) := hide (by rw [D1.block _ (Array.getElem?_eq_some_iff.1 HB4.out.2).1 (fun h => h)]; exact HB4.out.2)
            clear o1 p1 s1 f1 k1 HFI HT0 HF0 HX0 HB4 D1 x0 x1
            go_wp2_with fail
            refine wp_region_K (fun z => decide (z < 13)) (fun U : World => U.cell? ⟨gA + 1, 0, none⟩ = some (.int .i64 l0)) (by kernel_rfl) ?_
            generalize V1.drew = U1 at *
            have hS : (fun U : World => U.cell? ⟨gA + 1, 0, none⟩ = some (.int .i64 l0)) U1 := (cell_of_row _ _ _ _ _ _ HC1.out).trans rfl
            have hm1 : mid + 1 ≤ 9223372036854775807 := by have := HHI.out; unfold In64 at this; omega
            have hm2 : -9223372036854775808 ≤ mid + 1 := by have := HMID.out; unfold In64 at this; omega
            have hwr : IntKind.i64.wrap (mid + 1) = mid + 1 := wrap_i64_fit _ hm2 hm1
            refine wpAnyK_takeTo 0 (some 75) (.pointer (some ⟨gt, 0, none⟩)) [5, 12, 13, 14] rfl rfl (by kernel_rfl) (by kernel_rfl) (by kernel_rfl) (by kernel_rfl) (fun _ _ _ h => h) hS (Or.inl ⟨rfl, fun w1 hw1 => by have hw1 : w1.cell? ⟨gA + 1, 0, none⟩ = some (.int .i64 l0) := hw1; go_simp⟩) ?_
            simp only [Act.put, List.setIfInBounds_toArray, List.set_cons_zero, List.set_cons_succ]
            refine wpAnyK_takeTo 1 (some 76) (.int .i64 lo) [5, 12, 13, 14] rfl rfl (by kernel_rfl) (by kernel_rfl) (by kernel_rfl) (by kernel_rfl) (fun _ _ _ h => h) hS (Or.inl ⟨rfl, fun w1 hw1 => by have hw1 : w1.cell? ⟨gA + 1, 0, none⟩ = some (.int .i64 l0) := hw1; go_simp⟩) ?_
            simp only [Act.put, List.setIfInBounds_toArray, List.set_cons_zero, List.set_cons_succ]
            refine wpAnyK_takeTo 2 (some 77) (.int .i64 mid) [5, 12, 13, 14] rfl rfl (by kernel_rfl) (by kernel_rfl) (by kernel_rfl) (by kernel_rfl) (fun _ _ _ h => h) hS (Or.inl ⟨rfl, fun w1 hw1 => by have hw1 : w1.cell? ⟨gA + 1, 0, none⟩ = some (.int .i64 l0) := hw1; go_simp⟩) ?_
            simp only [Act.put, List.setIfInBounds_toArray, List.set_cons_zero, List.set_cons_succ]
            refine wpAnyK_takeTo 3 (some 78) (.pointer (some ⟨gA + 1, 0, none⟩)) [4, 5, 12, 13, 14] rfl rfl (by kernel_rfl) (by kernel_rfl) (by kernel_rfl) (by kernel_rfl) (fun _ _ _ h => h) hS (Or.inl ⟨rfl, fun w1 hw1 => by have hw1 : w1.cell? ⟨gA + 1, 0, none⟩ = some (.int .i64 l0) := hw1; go_simp⟩) ?_
            simp only [Act.put, List.setIfInBounds_toArray, List.set_cons_zero, List.set_cons_succ]
            refine wpAnyK_takeTo 4 (some 79) (.int .i64 l0) [5, 12, 13, 14] rfl rfl (by kernel_rfl) (by kernel_rfl) (by kernel_rfl) (by kernel_rfl) (fun _ _ _ h => h) hS (Or.inl ⟨rfl, fun w1 hw1 => by have hw1 : w1.cell? ⟨gA + 1, 0, none⟩ = some (.int .i64 l0) := hw1; go_simp⟩) ?_
            simp only [Act.put, List.setIfInBounds_toArray, List.set_cons_zero, List.set_cons_succ]
            refine wpAnyK_takeTo 6 (some 81) (.pointer (some ⟨gt, 0, none⟩)) [12, 13, 14] rfl rfl (by kernel_rfl) (by kernel_rfl) (by kernel_rfl) (by kernel_rfl) (fun _ _ _ h => h) hS (Or.inl ⟨rfl, fun w1 hw1 => by have hw1 : w1.cell? ⟨gA + 1, 0, none⟩ = some (.int .i64 l0) := hw1; go_simp⟩) ?_
            simp only [Act.put, List.setIfInBounds_toArray, List.set_cons_zero, List.set_cons_succ]
            refine wpAnyK_takeTo 7 (some 82) (.int .i64 mid) [8, 12, 13, 14] rfl rfl (by kernel_rfl) (by kernel_rfl) (by kernel_rfl) (by kernel_rfl) (fun _ _ _ h => h) hS (Or.inl ⟨rfl, fun w1 hw1 => by have hw1 : w1.cell? ⟨gA + 1, 0, none⟩ = some (.int .i64 l0) := hw1; go_simp⟩) ?_
            simp only [Act.put, List.setIfInBounds_toArray, List.set_cons_zero, List.set_cons_succ]
            refine wpAnyK_takeTo 8 (some 83) (.int .i64 (mid + 1)) [12, 13, 14] rfl rfl (by kernel_rfl) (by kernel_rfl) (by kernel_rfl) (by kernel_rfl) (fun _ _ _ h => h) hS (Or.inl ⟨rfl, fun w1 hw1 => by have hw1 : w1.cell? ⟨gA + 1, 0, none⟩ = some (.int .i64 l0) := hw1; go_simp⟩) ?_
            simp only [Act.put, List.setIfInBounds_toArray, List.set_cons_zero, List.set_cons_succ]
            refine wpAnyK_takeTo 9 (some 84) (.int .i64 hi) [12, 13, 14] rfl rfl (by kernel_rfl) (by kernel_rfl) (by kernel_rfl) (by kernel_rfl) (fun _ _ _ h => h) hS (Or.inl ⟨rfl, fun w1 hw1 => by have hw1 : w1.cell? ⟨gA + 1, 0, none⟩ = some (.int .i64 l0) := hw1; go_simp⟩) ?_
            simp only [Act.put, List.setIfInBounds_toArray, List.set_cons_zero, List.set_cons_succ]
            refine wpAnyK_takeTo 10 (some 85) (.pointer (some ⟨gA + 1, 0, none⟩)) [11, 12, 13, 14] rfl rfl (by kernel_rfl) (by kernel_rfl) (by kernel_rfl) (by kernel_rfl) (fun _ _ _ h => h) hS (Or.inl ⟨rfl, fun w1 hw1 => by have hw1 : w1.cell? ⟨gA + 1, 0, none⟩ = some (.int .i64 l0) := hw1; go_simp⟩) ?_
            simp only [Act.put, List.setIfInBounds_toArray, List.set_cons_zero, List.set_cons_succ]
            refine wpAnyK_takeTo 11 (some 86) (.int .i64 l0) [12, 13, 14] rfl rfl (by kernel_rfl) (by kernel_rfl) (by kernel_rfl) (by kernel_rfl) (fun _ _ _ h => h) hS (Or.inl ⟨rfl, fun w1 hw1 => by have hw1 : w1.cell? ⟨gA + 1, 0, none⟩ = some (.int .i64 l0) := hw1; go_simp⟩) ?_
            simp only [Act.put, List.setIfInBounds_toArray, List.set_cons_zero, List.set_cons_succ]
            refine wpAnyK_one (i := 5) (by kernel_rfl) rfl rfl ?_
            refine wp_call_to (some 80) rfl 12 #[.pointer (some ⟨gt, 0, none⟩), .int .i64 lo, .int .i64 mid, .int .i64 l0] (by go_simp) (findT_any HT1.out (by have := HPL.out; omega) lo mid l0) ?_
            rintro e U2 ⟨v2, T2, rfl, o2, p2, s2, f2, k2⟩
            obtain ⟨a2, c2, rfl⟩ := shape_n o2
            have hS2 : U2.cell? ⟨gA + 1, 0, none⟩ = some (.int .i64 l0) := f2.cell' (fun h => h) hS
            refine ⟨_, rfl, fun _ => hS2, ?_⟩
            simp only [Act.put, List.setIfInBounds_toArray, List.set_cons_zero, List.set_cons_succ]
            have HO2 := hide o2
            have HP2 := hide (And.intro p2 s2)
            have HK2 := hide k2
            have HF2 := hide f2
            have HT2 := hide (HT1.out.fr f2 (fun _ _ h => h))
            clear o2 p2 s2 k2 f2 hS
            refine wpAnyK_one (i := 12) (by kernel_rfl) rfl rfl ?_
            refine wp_call_to (some 87) rfl 12 #[.pointer (some ⟨gt, 0, none⟩), .int .i64 (mid + 1), .int .i64 hi, .int .i64 l0] (by go_simp) (findT_any HT2.out (by have := HPL.out; omega) (mid + 1) hi l0) ?_
            rintro e U3 ⟨v3, T3, rfl, o3, p3, s3, f3, k3⟩
            obtain ⟨a3, c3, rfl⟩ := shape_n o3
            have hS3 : U3.cell? ⟨gA + 1, 0, none⟩ = some (.int .i64 l0) := f3.cell' (fun h => h) hS2
            refine ⟨_, rfl, fun _ => hS3, ?_⟩
            simp only [Act.put, List.setIfInBounds_toArray, List.set_cons_zero, List.set_cons_succ]
            have HSP := hide (split_find (by omega) (by omega) HP1.out.1 HP1.out.2 HP2.out.1 HP2.out.2 p3 s3)
            have HLN : Hid (T1.length ≤ 1048576) := hide (by
              have h2 := HP1.out.1.length_eq
              have h3 := List.length_filter_le (withinP lo hi l0) P
              have := HPL.out
              omega)
            have hlen : T2.length + T3.length = T1.length := by rw [HSP.out, List.length_append]
            obtain ⟨v4, U4, hr4, o4, f4, s4⟩ := app_pts (OwnPt.fr HO2.out f3 (fun _ _ h => h)) o3 35 (by have := HLN.out; omega)
            rw [← HSP.out] at o4
            obtain ⟨a4, c4, rfl⟩ := shape_n o4
            have F13 := HF2.out.two f3
            have HO4 := hide o4
            have hv2 : ∀ k, (Value.slice a2 T2.length c2).ownBlock = some k → U1.heap.size ≤ k := fun k hk => HK2.out k hk
            have HO14 := hide (OwnPt.fr (OwnPt.fr HO1.out F13 (fun _ _ h => h)) f4 (fun k hk h => by have h1 := hv2 k h; have h2 := ownsRow_lt HO1.out hk; omega))
            have HT4 := hide ((HT2.out.fr f3 (fun _ _ h => h)).fr f4 (fun k hk h => by have h1 := hv2 k h; have h2 := HX1.out k hk; omega))
            have HF4 : Hid (Fr w U4 (fun k => bs ≤ k)) := hide (((HF1.out.trans F13).trans f4).mono (fun k hk h => by rcases h with (h | h) | h; exact h; exact h.elim; (have h1 := hv2 k h; have := HBB.out; show bs ≤ k; omega)))
            have z1 : U4.cell? ⟨gA + 1, 1, none⟩ = some (.int .i64 l1) := by
              have h0 : U3.cell? ⟨gA + 1, 1, none⟩ = some (.int .i64 l1) := F13.cell' (fun h => h) ((cell_of_row _ _ _ _ _ _ HC1.out).trans rfl)
              exact f4.cell' (fun h => by have h1 := hv2 _ h; have := (Array.getElem?_eq_some_iff.1 HC1.out).1; omega) h0
            have HFI := hide (findT_any HT4.out (by have := HPL.out; omega) lo hi l1)
            have HP3 := hide (And.intro HP1.out.1 HP1.out.2)
            refine wpAnyK_one (i := 13) (by kernel_rfl) rfl rfl ?_
            refine wp_append_to (.tmp 80) (.tmp 87) 35 rfl _ rfl _ rfl (.slice a2 T2.length c2) (.slice a3 T3.length c3) rfl rfl _ _ hr4 ?_
            refine ⟨fun h => by simp at h, ?_⟩
            simp only [Act.put, List.setIfInBounds_toArray, List.set_cons_zero, List.set_cons_succ]
            refine wpAnyK_one (i := 14) (by kernel_rfl) rfl rfl ?_
            go_simp
            refine wpAnyK_done (by kernel_rfl) ?_ _
            clear hS2 hS3 o3 p3 s3 f3 k3 hr4 o4 f4 s4 F13 hv2 HO1 HO2 HK2 HF2 HT1 HT2 HF1 HX1 HBB HC1 HP2 HSP hlen
            have hnn : ((T1.length : Int) != (T1.length : Int)) = false := by simp
            go_wp2_with fail
            refine HFI.out.mono ?_
            rintro e V5 ⟨v5, T5, rfl, o5, p5, _, f5, _⟩
            obtain ⟨a5, c5, rfl⟩ := shape_n o5
            have hle := less_find (by omega) HP3.out.1 p5
            have hleb : decide ((T5.length : Int) > (T1.length : Int)) = false := by simp; omega
            have hle2 : ¬ ((T5.length : Int) > (T1.length : Int)) := by omega
            have hle3 : decide (T1.length < T5.length) = false := by simp; omega
            have HO15 := hide (OwnPt.fr HO14.out f5 (fun _ _ h => h))
            have HO45 := hide (OwnPt.fr HO4.out f5 (fun _ _ h => h))
            have HF5 : Hid (Fr w V5 (fun _ => False)) := hide ((HF4.out.trans f5).mono (fun k hk h => by rcases h with h | h; exact HEN.out k hk h; exact h))
            have hl1 := HLN.out
            clear o5 p5 f5 hle HFI HO14 HO4 HF4 HT4 HP1 HP3 z1
            generalize hgn : T1.length = m at *
            have HGN := hide hgn
            clear hgn
            go_wp2_with fail
            go_loopw [108] (fun ix wr => ∃ q : Nat, q ≤ m ∧ ix = .int .i64 (q : Int) ∧ Fr V5 wr (fun _ => False)) (fun ix _ => m - (intOf ix).toNat)
            case atStart => exact ⟨0, Nat.zero_le _, rfl, Fr.refl _ _⟩
            case round =>
              rename World => Y
              obtain ⟨q, hq, rfl, hfy⟩ := hrel
              rcases Nat.lt_or_ge q m with hlt | hge
              · obtain ⟨p, hp⟩ : ∃ p, T1[q]? = some p := ⟨_, List.getElem?_eq_getElem (by rw [HGN.out]; exact hlt)⟩
                obtain ⟨g1, ha1, u1⟩ := own_pt (OwnPt.fr HO15.out (hfy.two (Fr.drew Y _)) (fun _ _ h => h)) hp
                obtain ⟨g4, ha4, u4⟩ := own_pt (OwnPt.fr HO45.out (hfy.two (Fr.drew Y _)) (fun _ _ h => h)) hp
                subst ha1 ha4
                have HFY := hide (hfy.two (Fr.drew Y _))
                clear hp hfy
                go_wp2_with fail
                refine wp_region_K (fun _ => true) (fun U : World => U = Y.drew) (by kernel_rfl) ?_
                generalize Y.drew = U5 at *
                have hS : (fun V : World => V = U5) U5 := rfl
                obtain ⟨e1, e2, e3⟩ := u1
                obtain ⟨e4, e5, e6⟩ := u4
                refine wpAnyK_takeTo 0 (some 111) (.slice (some ⟨g1, 0, none⟩) m c1) [2, 3, 8] rfl rfl (by kernel_rfl) (by kernel_rfl) (by kernel_rfl) (by kernel_rfl) (fun _ _ _ h => h) hS (Or.inl ⟨rfl, fun w1 hw1 => by have hw1 : w1 = U5 := hw1; subst hw1; go_simp⟩) ?_
                simp only [Act.put, List.setIfInBounds_toArray, List.set_cons_zero, List.set_cons_succ]
                refine wpAnyK_takeTo 1 (some 112) (.int .i64 (q : Int)) [2, 3, 8] rfl rfl (by kernel_rfl) (by kernel_rfl) (by kernel_rfl) (by kernel_rfl) (fun _ _ _ h => h) hS (Or.inl ⟨rfl, fun w1 hw1 => by have hw1 : w1 = U5 := hw1; subst hw1; go_simp⟩) ?_
                simp only [Act.put, List.setIfInBounds_toArray, List.set_cons_zero, List.set_cons_succ]
                refine wpAnyK_takeTo 2 (some 113) (.pointer (some ⟨g1, q * 3, none⟩)) [3, 8] rfl rfl (by kernel_rfl) (by kernel_rfl) (by kernel_rfl) (by kernel_rfl) (fun _ _ _ h => h) hS (Or.inl ⟨rfl, fun w1 hw1 => by have hw1 : w1 = U5 := hw1; subst hw1; go_simp⟩) ?_
                simp only [Act.put, List.setIfInBounds_toArray, List.set_cons_zero, List.set_cons_succ]
                refine wpAnyK_takeTo 3 (some 114) (.agg #[.int .i64 p.x, .int .i64 p.y, .int .i64 p.id]) [8] rfl rfl (by kernel_rfl) (by kernel_rfl) (by kernel_rfl) (by kernel_rfl) (fun _ _ _ h => h) hS (Or.inl ⟨rfl, fun w1 hw1 => by have hw1 : w1 = U5 := hw1; subst hw1; go_simp⟩) ?_
                simp only [Act.put, List.setIfInBounds_toArray, List.set_cons_zero, List.set_cons_succ]
                refine wpAnyK_takeTo 4 (some 115) (.slice (some ⟨g4, 0, none⟩) m c4) [6, 7, 8] rfl rfl (by kernel_rfl) (by kernel_rfl) (by kernel_rfl) (by kernel_rfl) (fun _ _ _ h => h) hS (Or.inl ⟨rfl, fun w1 hw1 => by have hw1 : w1 = U5 := hw1; subst hw1; go_simp⟩) ?_
                simp only [Act.put, List.setIfInBounds_toArray, List.set_cons_zero, List.set_cons_succ]
                refine wpAnyK_takeTo 5 (some 116) (.int .i64 (q : Int)) [6, 7, 8] rfl rfl (by kernel_rfl) (by kernel_rfl) (by kernel_rfl) (by kernel_rfl) (fun _ _ _ h => h) hS (Or.inl ⟨rfl, fun w1 hw1 => by have hw1 : w1 = U5 := hw1; subst hw1; go_simp⟩) ?_
                simp only [Act.put, List.setIfInBounds_toArray, List.set_cons_zero, List.set_cons_succ]
                refine wpAnyK_takeTo 6 (some 117) (.pointer (some ⟨g4, q * 3, none⟩)) [7, 8] rfl rfl (by kernel_rfl) (by kernel_rfl) (by kernel_rfl) (by kernel_rfl) (fun _ _ _ h => h) hS (Or.inl ⟨rfl, fun w1 hw1 => by have hw1 : w1 = U5 := hw1; subst hw1; go_simp⟩) ?_
                simp only [Act.put, List.setIfInBounds_toArray, List.set_cons_zero, List.set_cons_succ]
                refine wpAnyK_takeTo 7 (some 118) (.agg #[.int .i64 p.x, .int .i64 p.y, .int .i64 p.id]) [8] rfl rfl (by kernel_rfl) (by kernel_rfl) (by kernel_rfl) (by kernel_rfl) (fun _ _ _ h => h) hS (Or.inl ⟨rfl, fun w1 hw1 => by have hw1 : w1 = U5 := hw1; subst hw1; go_simp⟩) ?_
                simp only [Act.put, List.setIfInBounds_toArray, List.set_cons_zero, List.set_cons_succ]
                refine wpAnyK_one (i := 8) (by kernel_rfl) rfl rfl ?_
                go_simp
                refine wpAnyK_done (by kernel_rfl) ?_ _
                clear hS e1 e2 e3 e4 e5 e6
                go_wp2
                go_roundw
                case rel => exact ⟨q + 1, by omega, by go_num, HFY.out⟩
                case measure => simp [intOf]; omega
              · have e1 : m = q := by omega
                subst e1
                have HEND := hide (HF5.out.two hfy)
                clear hfy
                go_wp2
                go_ret
                exact ⟨rfl, HEND.out⟩
end Go.Proofs.Ytklnaeldhdhmiaa
