/- The document's Top. -/
import Derived.Test.YtklnaeldhdhmiaaX3
namespace Go.Proofs.Ytklnaeldhdhmiaa
open Go.RowKit Go.Sort
set_option maxRecDepth 100000
set_option linter.unusedVariables false
set_option linter.unusedSimpArgs false

def BoxR (w : World) (g : Nat) (p : Pt) : Prop := w.heap[g]? = some (.cells #[.int .i64 p.x, .int .i64 p.y, .int .i64 p.id] 56 (0, 0))
theorem BoxR.fr {w w' : World} {X : Nat → Prop} {g : Nat} {p : Pt} (h : BoxR w g p) (hf : Fr w w' X) (hx : ¬ X g) : BoxR w' g p := by
  unfold BoxR at *
  rw [hf.block g (Array.getElem?_eq_some_iff.1 h).1 hx]
  exact h
theorem BoxR.pt {w : World} {g : Nat} {p : Pt} (h : BoxR w g p) : PtAt w g 0 p := ⟨(cell_of_row _ _ _ _ _ _ h).trans rfl, (cell_of_row _ _ _ _ _ _ h).trans rfl, (cell_of_row _ _ _ _ _ _ h).trans rfl⟩
theorem BoxR.frozen {w : World} {g : Nat} {p : Pt} (h : BoxR w g p) (j : Nat) : w.frozen? ⟨g, j, none⟩ = false := by unfold BoxR at h; simp [World.frozen?, h]
theorem BoxR.put {w : World} {g : Nat} {p : Pt} (h : BoxR w g p) (q : Pt) : BoxR (((w.setCell ⟨g, 0, none⟩ (.int .i64 q.x)).setCell ⟨g, 1, none⟩ (.int .i64 q.y)).setCell ⟨g, 2, none⟩ (.int .i64 q.id)) g q := by
  unfold BoxR at h ⊢
  have h1 := heap_setCell_here w g 0 (.int .i64 q.x) _ 56 (0, 0) h
  have h2 := heap_setCell_here _ g 1 (.int .i64 q.y) _ 56 (0, 0) h1
  have h3 := heap_setCell_here _ g 2 (.int .i64 q.id) _ 56 (0, 0) h2
  rw [h3]
  rfl
theorem results_r {fn : Func} {p q : Tmp} (h : fn.results = #[.cell p 56, .tmp q]) (tmps : Array Value) (w : World) (g : Nat) {x : Pt} (ht : PtAt w g 0 x) (hp : tmps.getD p undef = .pointer (some ⟨g, 0, none⟩)) :
    (results fn tmps).run Try.prog w = .ok (.tuple #[x.agg, tmps.getD q undef]) w := by
  have hp' : tmps[p]?.getD undef = .pointer (some ⟨g, 0, none⟩) := by simpa using hp
  simp [results, h, hp', asAddr, Pt.agg, run_loadVar_mid (P := Try.prog) w g 0 56 [.int .i64 x.x, .int .i64 x.y, .int .i64 x.id] _ ht.range Try.underlying56 rfl (by kernel_rfl)]
set_option maxHeartbeats 8000000 in
theorem topR_any {w : World} {a : Option Addr} {n c : Nat} {L : List Pt} (hL : OwnR w (.slice a n c) L) (hn : L.length = n) (hnb : n ≤ 1048576) (hpos : 0 < n) : Calls Try.prog 19 #[.slice a n c] w fun e w' => ∃ (i : Nat) (p : Pt), e = .returned (.tuple #[p.agg, .int .i64 0]) ∧ L[i]? = some p ∧ (∀ (j : Nat) (q : Pt), L[j]? = some q → q.y ≤ p.y ∧ (q.y = p.y → i ≤ j)) ∧ Fr w w' (fun _ => False) := by
  have HL := hide hL
  have HN := hide hn
  have hnz : ¬ ((n : Int) = 0) := by omega
  have hnzb : ((n : Int) == 0) = false := by simp; omega
  obtain ⟨p0, hp0⟩ : ∃ p0, L[0]? = some p0 := ⟨_, List.getElem?_eq_getElem (by omega)⟩
  obtain ⟨gl, ha, u0⟩ := OwnR.at hL hp0
  subst ha
  have FZ := Fr.alloc w (.cells #[.int .i64 0, .int .i64 0, .int .i64 0] 56) (fun _ => False)
  obtain ⟨x0, x1, x2⟩ := u0.fr FZ (fun h => h)
  simp only [Nat.zero_mul, Nat.zero_add] at x0 x1 x2
  have HP0 := hide hp0
  have hz : (w.alloc (.cells #[.int .i64 0, .int .i64 0, .int .i64 0] 56)).heap.size = w.heap.size + 1 := by simp
  obtain ⟨W2, hW2⟩ : ∃ W2, W2 = (w.alloc (.cells #[.int .i64 0, .int .i64 0, .int .i64 0] 56)).alloc (.cells #[.int .i64 p0.x, .int .i64 p0.y, .int .i64 p0.id] 56) := ⟨_, rfl⟩
  have HB : Hid (BoxR W2 (w.heap.size + 1) p0 ∧ BoxR W2 w.heap.size ⟨0, 0, 0⟩ ∧ Fr w W2 (fun _ => False)) := hide (by
    have F2 := Fr.alloc (w.alloc (.cells #[.int .i64 0, .int .i64 0, .int .i64 0] 56)) (.cells #[.int .i64 p0.x, .int .i64 p0.y, .int .i64 p0.id] 56) (fun _ => False)
    have b2 := heap_alloc_new (w.alloc (.cells #[.int .i64 0, .int .i64 0, .int .i64 0] 56)) (.cells #[.int .i64 p0.x, .int .i64 p0.y, .int .i64 p0.id] 56)
    rw [hz] at b2
    have b1 : BoxR (w.alloc (.cells #[.int .i64 0, .int .i64 0, .int .i64 0] 56)) w.heap.size ⟨0, 0, 0⟩ := heap_alloc_new w _
    rw [hW2]
    exact ⟨b2, b1.fr F2 (fun h => h), FZ.both F2⟩)
  have HW2 := hide hW2
  clear hL hn hp0 u0 FZ hz hW2
  go_enter Try.func19, Try.ntmps19
  go_wp2_with fail
  rw [← HW2.out]
  clear HW2 x0 x1 x2
  generalize hg0 : w.heap.size = g0 at *
  have HG0 := hide hg0
  clear hg0
  go_loopw [5] (fun ix wr => ∃ (j i : Nat) (p : Pt), j ≤ n ∧ i < j ∧ ix = .int .i64 (j : Int) ∧ L[i]? = some p ∧ (∀ (k : Nat) (q : Pt), k < j → L[k]? = some q → q.y ≤ p.y ∧ (q.y = p.y → i ≤ k)) ∧ BoxR wr (g0 + 1) p ∧ BoxR wr g0 ⟨0, 0, 0⟩ ∧ Fr w wr (fun _ => False)) (fun ix _ => n - (intOf ix).toNat)
  case atStart => exact ⟨1, 0, p0, by omega, by omega, rfl, HP0.out, fun k q hk hq => by
      have : k = 0 := by omega
      subst this
      rw [HP0.out] at hq
      cases hq
      exact ⟨Int.le_refl _, fun _ => Nat.le_refl _⟩, HB.out.1, HB.out.2.1, HB.out.2.2⟩
  case round =>
    rename World => Y
    obtain ⟨j, i, p, hj, hj1, rfl, hip, hall, hb1, hb0, hfy⟩ := hrel
    have HIP := hide hip
    have HAL := hide hall
    have HB1 := hide hb1
    have HB0 := hide hb0
    have HFY := hide hfy
    clear hip hall hb1 hb0 hfy HB
    rcases Nat.lt_or_ge j n with hlt | hge
    · obtain ⟨q, hq⟩ : ∃ q, L[j]? = some q := ⟨_, List.getElem?_eq_getElem (by rw [HN.out]; exact hlt)⟩
      have D := Fr.drew Y (fun _ => False)
      obtain ⟨gl', hgl', u⟩ := OwnR.at (OwnR.fr HL.out (HFY.out.both D) (fun _ _ h => h)) hq
      cases hgl'
      have HQ := hide hq
      obtain ⟨e1, e2, e3⟩ := u
      have HB1d := hide (HB1.out.fr D (fun h => h))
      have HB0d := hide (HB0.out.fr D (fun h => h))
      have HFd := hide (HFY.out.both D)
      obtain ⟨k1, k2, k3⟩ := HB1d.out.pt
      have z0 := HB1d.out.frozen 0
      have z1 := HB1d.out.frozen 1
      have z2 := HB1d.out.frozen 2
      clear hq D HB1 HB0 HFY
      go_wp2_with fail
      refine wp_region_K (fun _ => true) (fun U : World => U = Y.drew) (by kernel_rfl) ?_
      generalize Y.drew = U at *
      have hS : (fun V : World => V = U) U := rfl
      by_cases hgt : q.y > p.y
      · have hgtb : decide (q.y > p.y) = true := by simp [hgt]
        refine wpAnyK_takeTo 0 (some 19) (.slice (some ⟨gl, 0, none⟩) n c) [2, 3, 4, 7] rfl rfl (by kernel_rfl) (by kernel_rfl) (by kernel_rfl) (by kernel_rfl) (fun _ _ _ h => h) hS (Or.inl ⟨rfl, fun w1 hw1 => by have hw1 : w1 = U := hw1; subst hw1; go_simp⟩) ?_
        simp only [Act.put, List.setIfInBounds_toArray, List.set_cons_zero, List.set_cons_succ]
        refine wpAnyK_takeTo 1 (some 20) (.int .i64 (j : Int)) [2, 3, 4, 7] rfl rfl (by kernel_rfl) (by kernel_rfl) (by kernel_rfl) (by kernel_rfl) (fun _ _ _ h => h) hS (Or.inl ⟨rfl, fun w1 hw1 => by have hw1 : w1 = U := hw1; subst hw1; go_simp⟩) ?_
        simp only [Act.put, List.setIfInBounds_toArray, List.set_cons_zero, List.set_cons_succ]
        refine wpAnyK_takeTo 2 (some 21) (.pointer (some ⟨gl, j * 3, none⟩)) [3, 4, 7] rfl rfl (by kernel_rfl) (by kernel_rfl) (by kernel_rfl) (by kernel_rfl) (fun _ _ _ h => h) hS (Or.inl ⟨rfl, fun w1 hw1 => by have hw1 : w1 = U := hw1; subst hw1; go_simp⟩) ?_
        simp only [Act.put, List.setIfInBounds_toArray, List.set_cons_zero, List.set_cons_succ]
        refine wpAnyK_takeTo 3 (some 22) (.pointer (some ⟨gl, j * 3 + 1, none⟩)) [4, 7] rfl rfl (by kernel_rfl) (by kernel_rfl) (by kernel_rfl) (by kernel_rfl) (fun _ _ _ h => h) hS (Or.inl ⟨rfl, fun w1 hw1 => by have hw1 : w1 = U := hw1; subst hw1; go_simp⟩) ?_
        simp only [Act.put, List.setIfInBounds_toArray, List.set_cons_zero, List.set_cons_succ]
        refine wpAnyK_takeTo 4 (some 23) (.int .i64 q.y) [7] rfl rfl (by kernel_rfl) (by kernel_rfl) (by kernel_rfl) (by kernel_rfl) (fun _ _ _ h => h) hS (Or.inl ⟨rfl, fun w1 hw1 => by have hw1 : w1 = U := hw1; subst hw1; go_simp⟩) ?_
        simp only [Act.put, List.setIfInBounds_toArray, List.set_cons_zero, List.set_cons_succ]
        refine wpAnyK_takeTo 5 (some 24) (.pointer (some ⟨g0 + 1, 1, none⟩)) [6, 7] rfl rfl (by kernel_rfl) (by kernel_rfl) (by kernel_rfl) (by kernel_rfl) (fun _ _ _ h => h) hS (Or.inl ⟨rfl, fun w1 hw1 => by have hw1 : w1 = U := hw1; subst hw1; go_simp⟩) ?_
        simp only [Act.put, List.setIfInBounds_toArray, List.set_cons_zero, List.set_cons_succ]
        refine wpAnyK_takeTo 6 (some 25) (.int .i64 p.y) [7] rfl rfl (by kernel_rfl) (by kernel_rfl) (by kernel_rfl) (by kernel_rfl) (fun _ _ _ h => h) hS (Or.inl ⟨rfl, fun w1 hw1 => by have hw1 : w1 = U := hw1; subst hw1; go_simp⟩) ?_
        simp only [Act.put, List.setIfInBounds_toArray, List.set_cons_zero, List.set_cons_succ]
        refine wpAnyK_takeTo 7 (some 26) (.bool true) [] rfl rfl (by kernel_rfl) (by kernel_rfl) (by kernel_rfl) (by kernel_rfl) (fun _ _ _ h => h) hS (Or.inl ⟨rfl, fun w1 hw1 => by have hw1 : w1 = U := hw1; subst hw1; go_simp⟩) ?_
        simp only [Act.put, List.setIfInBounds_toArray, List.set_cons_zero, List.set_cons_succ]
        refine wpAnyK_done (by kernel_rfl) ?_ _
        obtain ⟨U2, hU2⟩ : ∃ U2, U2 = ((U.setCell ⟨g0 + 1, 0, none⟩ (.int .i64 q.x)).setCell ⟨g0 + 1, 1, none⟩ (.int .i64 q.y)).setCell ⟨g0 + 1, 2, none⟩ (.int .i64 q.id) := ⟨_, rfl⟩
        have HB2 : Hid (BoxR U2 (g0 + 1) q ∧ BoxR U2 g0 ⟨0, 0, 0⟩ ∧ Fr w U2 (fun _ => False)) := hide (by
          rw [hU2]
          have F := Fr.set3 U (g0 + 1) 0 1 2 (.int .i64 q.x) (.int .i64 q.y) (.int .i64 q.id)
          exact ⟨HB1d.out.put q, HB0d.out.fr F (fun h => by have h : g0 = g0 + 1 := h; omega), (HFd.out.trans F).mono (fun k hk h => by rcases h with h | h; exact h; (have h : k = g0 + 1 := h; have := HG0.out; omega))⟩)
        have HAL2 : Hid (∀ (k : Nat) (z : Pt), k < j + 1 → L[k]? = some z → z.y ≤ q.y ∧ (z.y = q.y → j ≤ k)) := hide (fun k z hk hz => by
          rcases Nat.lt_or_ge k j with h | h
          · have := (HAL.out k z h hz).1
            exact ⟨by omega, fun e => by omega⟩
          · have : k = j := by omega
            subst this
            rw [HQ.out] at hz
            cases hz
            exact ⟨Int.le_refl _, fun _ => Nat.le_refl _⟩)
        have HU2 := hide hU2
        clear hU2 hS
        go_wp2_with (rw [← HU2.out])
        go_roundw
        case rel => exact ⟨j + 1, j, q, by omega, by omega, by go_num, HQ.out, HAL2.out, HB2.out.1, HB2.out.2.1, HB2.out.2.2⟩
        case measure => simp [intOf]; omega
      · have hgtb : decide (q.y > p.y) = false := by simp; omega
        refine wpAnyK_takeTo 0 (some 19) (.slice (some ⟨gl, 0, none⟩) n c) [2, 3, 4, 7] rfl rfl (by kernel_rfl) (by kernel_rfl) (by kernel_rfl) (by kernel_rfl) (fun _ _ _ h => h) hS (Or.inl ⟨rfl, fun w1 hw1 => by have hw1 : w1 = U := hw1; subst hw1; go_simp⟩) ?_
        simp only [Act.put, List.setIfInBounds_toArray, List.set_cons_zero, List.set_cons_succ]
        refine wpAnyK_takeTo 1 (some 20) (.int .i64 (j : Int)) [2, 3, 4, 7] rfl rfl (by kernel_rfl) (by kernel_rfl) (by kernel_rfl) (by kernel_rfl) (fun _ _ _ h => h) hS (Or.inl ⟨rfl, fun w1 hw1 => by have hw1 : w1 = U := hw1; subst hw1; go_simp⟩) ?_
        simp only [Act.put, List.setIfInBounds_toArray, List.set_cons_zero, List.set_cons_succ]
        refine wpAnyK_takeTo 2 (some 21) (.pointer (some ⟨gl, j * 3, none⟩)) [3, 4, 7] rfl rfl (by kernel_rfl) (by kernel_rfl) (by kernel_rfl) (by kernel_rfl) (fun _ _ _ h => h) hS (Or.inl ⟨rfl, fun w1 hw1 => by have hw1 : w1 = U := hw1; subst hw1; go_simp⟩) ?_
        simp only [Act.put, List.setIfInBounds_toArray, List.set_cons_zero, List.set_cons_succ]
        refine wpAnyK_takeTo 3 (some 22) (.pointer (some ⟨gl, j * 3 + 1, none⟩)) [4, 7] rfl rfl (by kernel_rfl) (by kernel_rfl) (by kernel_rfl) (by kernel_rfl) (fun _ _ _ h => h) hS (Or.inl ⟨rfl, fun w1 hw1 => by have hw1 : w1 = U := hw1; subst hw1; go_simp⟩) ?_
        simp only [Act.put, List.setIfInBounds_toArray, List.set_cons_zero, List.set_cons_succ]
        refine wpAnyK_takeTo 4 (some 23) (.int .i64 q.y) [7] rfl rfl (by kernel_rfl) (by kernel_rfl) (by kernel_rfl) (by kernel_rfl) (fun _ _ _ h => h) hS (Or.inl ⟨rfl, fun w1 hw1 => by have hw1 : w1 = U := hw1; subst hw1; go_simp⟩) ?_
        simp only [Act.put, List.setIfInBounds_toArray, List.set_cons_zero, List.set_cons_succ]
        refine wpAnyK_takeTo 5 (some 24) (.pointer (some ⟨g0 + 1, 1, none⟩)) [6, 7] rfl rfl (by kernel_rfl) (by kernel_rfl) (by kernel_rfl) (by kernel_rfl) (fun _ _ _ h => h) hS (Or.inl ⟨rfl, fun w1 hw1 => by have hw1 : w1 = U := hw1; subst hw1; go_simp⟩) ?_
        simp only [Act.put, List.setIfInBounds_toArray, List.set_cons_zero, List.set_cons_succ]
        refine wpAnyK_takeTo 6 (some 25) (.int .i64 p.y) [7] rfl rfl (by kernel_rfl) (by kernel_rfl) (by kernel_rfl) (by kernel_rfl) (fun _ _ _ h => h) hS (Or.inl ⟨rfl, fun w1 hw1 => by have hw1 : w1 = U := hw1; subst hw1; go_simp⟩) ?_
        simp only [Act.put, List.setIfInBounds_toArray, List.set_cons_zero, List.set_cons_succ]
        refine wpAnyK_takeTo 7 (some 26) (.bool false) [] rfl rfl (by kernel_rfl) (by kernel_rfl) (by kernel_rfl) (by kernel_rfl) (fun _ _ _ h => h) hS (Or.inl ⟨rfl, fun w1 hw1 => by have hw1 : w1 = U := hw1; subst hw1; go_simp⟩) ?_
        simp only [Act.put, List.setIfInBounds_toArray, List.set_cons_zero, List.set_cons_succ]
        refine wpAnyK_done (by kernel_rfl) ?_ _
        have HAL2 : Hid (∀ (k : Nat) (z : Pt), k < j + 1 → L[k]? = some z → z.y ≤ p.y ∧ (z.y = p.y → i ≤ k)) := hide (fun k z hk hz => by
          rcases Nat.lt_or_ge k j with h | h
          · exact HAL.out k z h hz
          · have : k = j := by omega
            subst this
            rw [HQ.out] at hz
            cases hz
            refine ⟨by omega, fun _ => ?_⟩
            exact Nat.le_of_lt hj1)
        clear hS e1 e2 e3 k1 k2 k3 z0 z1 z2
        go_wp2
        go_roundw
        case rel => exact ⟨j + 1, i, p, by omega, by omega, by go_num, HIP.out, HAL2.out, HB1d.out, HB0d.out, HFd.out⟩
        case measure => simp [intOf]; omega
    · have e1 : n = j := by omega
      subst e1
      obtain ⟨k1, k2, k3⟩ := HB1.out.pt
      obtain ⟨m1, m2, m3⟩ := HB0.out.pt
      have z0 := HB0.out.frozen 0
      have z1 := HB0.out.frozen 1
      have z2 := HB0.out.frozen 2
      obtain ⟨W3, hW3⟩ : ∃ W3, W3 = ((Y.setCell ⟨g0, 0, none⟩ (.int .i64 p.x)).setCell ⟨g0, 1, none⟩ (.int .i64 p.y)).setCell ⟨g0, 2, none⟩ (.int .i64 p.id) := ⟨_, rfl⟩
      have HB3 : Hid (BoxR W3 g0 p ∧ Fr w W3 (fun _ => False)) := hide (by
        rw [hW3]
        exact ⟨HB0.out.put p, (HFY.out.trans (Fr.set3 Y g0 0 1 2 _ _ _)).mono (fun k hk h => by rcases h with h | h; exact h; (have h : k = g0 := h; have := HG0.out; omega))⟩)
      have HALL : Hid (∀ (j : Nat) (q : Pt), L[j]? = some q → q.y ≤ p.y ∧ (q.y = p.y → i ≤ j)) := hide (fun k z hz => HAL.out k z (by have := (List.getElem?_eq_some_iff.1 hz).1; rw [HN.out] at this; exact this) hz)
      have HW3 := hide hW3
      clear hW3
      go_wp2_with (rw [← HW3.out])
      exact bodyPost_ret (results_r Try.results19 _ _ g0 HB3.out.1.pt rfl) rfl ⟨i, p, rfl, HIP.out, HALL.out, HB3.out.2⟩
end Go.Proofs.Ytklnaeldhdhmiaa
