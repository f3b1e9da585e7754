/- A node that may be changed: own, top. -/
import Derived.Test.YtigkinakhijfoaaGreatH
namespace Go.Proofs.YtigkinakhijfoaaGreat
open Go.RowKit
set_option maxRecDepth 100000
set_option linter.unusedVariables false
set_option linter.unusedSimpArgs false

theorem encI_one (L : List It) : ∀ u ∈ encI L, u.oneCell' = true := fun u hu => by
  unfold encI at hu
  obtain ⟨x, _, hx⟩ := List.mem_flatMap.1 hu
  simp at hx
  rcases hx with rfl | rfl <;> rfl
theorem ptrs_one (ks : List Kd) : ∀ u ∈ ptrs ks, u.oneCell' = true := fun u hu => by
  unfold ptrs at hu
  obtain ⟨x, _, rfl⟩ := List.mem_map.1 hu
  rfl
theorem ptrs_length (ks : List Kd) : (ptrs ks).length = ks.length := by unfold ptrs; simp
/-- A row's cells. -/
theorem row_cells {w : World} {e : TypeId} {z : Nat} {a : Option Addr} {c n : Nat} {xs : List Value} (h : w.ownsRow 0 e z (.slice a n c) n xs) : (a = none → n = 0 ∧ c = 0) ∧ ∀ x, a = some x → ∀ (j : Nat) (u : Value), xs[j]? = some u → w.cell? (x.add j) = some u := by
  refine ⟨fun ha => ?_, fun x ha j u hu => ?_⟩
  · subst ha
    rcases h.2 with ⟨e1, e2⟩ | ⟨g, cap, cur, e1, _⟩
    · simp only [Value.slice.injEq] at e1; exact ⟨e2, e1.2.2⟩
    · cases e1
  · obtain ⟨g, e1, c1⟩ := row_cell h hu
    rw [ha] at e1
    cases e1
    rw [Addr.add_mid, Nat.zero_add]
    exact c1
/-- What own reads. -/
def SOwn (tb g : Nat) (cur : Int) (lv kv : Value) (U : World) : Prop := U.cell? ⟨tb, 3, none⟩ = some (.int .i64 cur) ∧ U.cell? ⟨g, 1, none⟩ = some lv ∧ U.cell? ⟨g, 2, none⟩ = some kv
theorem SOwn.fr {tb g : Nat} {cur : Int} {lv kv : Value} {U V : World} (h : SOwn tb g cur lv kv U) (hf : Fr U V (fun _ => False)) : SOwn tb g cur lv kv V := ⟨hf.cell (fun h => h) h.1, hf.cell (fun h => h) h.2.1, hf.cell (fun h => h) h.2.2⟩
/-- The same tree, with a node that may be changed. -/
def OwnQ (o : Nat) (cur : Int) (h lo : Nat) (L : List It) (ks : List Kd) (w : World) (d : Kd) (e : Ending) (w' : World) : Prop := ∃ (d' : Kd) (lv kv : Value), e = .returned (.pointer (some ⟨d'.g, 0, none⟩)) ∧ NodeV o cur lo w' d' cur lv kv L ks ∧ KOk o cur h w' L ks ∧ d'.F = d.F ∧ (∀ k, d'.X k → d.X k ∨ w.heap.size ≤ k) ∧ (∀ k, d'.Y k → d.Y k ∨ w.heap.size ≤ k) ∧ Fr w w' (fun _ => False)
set_option maxHeartbeats 4000000 in
theorem own_any {o : Nat} {cur : Int} {h lo : Nat} {w : World} {d : Kd} {t : Int} {lv kv : Value} {L : List It} {ks : List Kd} {tb root : Nat} {cnt : Int} (hT : TreeB w tb o cnt root cur) (hN : NodeV o cur lo w d t lv kv L ks) (hK : KOk o cur h w L ks) (ho : o ≤ 64) : Calls Tryz.prog 86 #[.pointer (some ⟨tb, 0, none⟩), .pointer (some ⟨d.g, 0, none⟩)] w (OwnQ o cur h lo L ks w d) := by
  obtain ⟨x0, x1, x2⟩ := hN.cells
  obtain ⟨_, _, _, y3⟩ := hT.cells
  by_cases ht : t = cur
  · subst ht
    have HN := hide hN
    have HK := hide hK
    have hbe : (t == t) = true := by simp
    clear hT hN hK
    go_enter Tryz.func86, Tryz.ntmps86
    go_wp2_with fail
    go_quiet (fail)
    go_wp2
    go_ret
    exact ⟨d, lv, kv, rfl, HN.out.fr (Fr.drewN _ _ (fun _ => False)) (fun _ _ h => h), HK.out.fr (Fr.drewN _ _ (fun _ => False)) (fun _ _ _ _ h => h), rfl, fun _ h => .inl h, fun _ h => .inl h, Fr.drewN _ _ _⟩
  · have hbe : (t == cur) = false := by simpa using ht
    obtain ⟨la, lc, ka, kc', rfl, rfl⟩ := hN.shape
    obtain ⟨n, hn⟩ : ∃ n, n = L.length := ⟨_, rfl⟩
    obtain ⟨m, hm⟩ : ∃ m, m = ks.length := ⟨_, rfl⟩
    have hnb : n ≤ 1048576 := by have := hN.high; omega
    have hmb : m ≤ 1048576 := by have := hN.high; have := hK.len; omega
    have HC1 : Hid (∀ V, Fr w V (fun _ => False) → Calls Tryz.prog 87 #[.slice la n lc] V fun e w' => ∃ v, e = .returned v ∧ w'.ownsRow 0 106 2 v n (encI L) ∧ (∀ k, v.ownBlock = some k → V.heap.size ≤ k) ∧ Fr V w' (fun _ => False)) := hide (fun V hf => by
      have hr := ownsRow_fr hN.row hf (fun _ _ h => h)
      rw [← hn] at hr
      obtain ⟨r1, r2⟩ := row_cells hr
      exact cloneI la n lc (encI L) (by rw [encI_length, hn]) r1 r2 (encI_one L) hnb)
    have HC2 : Hid (∀ V, Fr w V (fun _ => False) → Calls Tryz.prog 88 #[.slice ka m kc'] V fun e w' => ∃ v, e = .returned v ∧ w'.ownsRow 0 74 1 v m (ptrs ks) ∧ (∀ k, v.ownBlock = some k → V.heap.size ≤ k) ∧ Fr V w' (fun _ => False)) := hide (fun V hf => by
      have hr := ownsRow_fr hN.krow hf (fun _ _ h => h)
      rw [← hm] at hr
      obtain ⟨r1, r2⟩ := row_cells hr
      exact cloneK ka m kc' (ptrs ks) (by rw [ptrs_length, hm]; omega) r1 r2 (ptrs_one ks) hmb)
    rw [← hn] at x1
    rw [← hm] at x2
    have HN := hide hN
    have HK := hide hK
    have HNE := hide hn
    have HME := hide hm
    have HSO : Hid (SOwn tb d.g cur (.slice la n lc) (.slice ka m kc') w) := hide ⟨y3, x1, x2⟩
    clear hT hN hK hn hm
    go_enter Tryz.func86, Tryz.ntmps86
    go_wp2_with fail
    go_quiet (fail)
    have HD := hide (Fr.drewN w nq (fun _ => False))
    generalize w.drewN nq = U0 at *
    go_wp2_with fail
    have HD2 := hide (HD.out.two (Fr.drew U0 _))
    refine wp_region_K (fun z => decide (z < 15)) (SOwn tb d.g cur (.slice la n lc) (.slice ka m kc')) (by kernel_rfl) ?_
    have hS := HSO.out.fr HD2.out
    clear x0 x1 x2 y3
    refine wpAnyK_takeTo 0 (some 15) (.pointer (some ⟨tb, 0, none⟩)) [1, 2, 3, 14, 15, 16] rfl rfl (by kernel_rfl) (by kernel_rfl) (by kernel_rfl) (by kernel_rfl) (fun _ _ _ h => h) hS (Or.inl ⟨rfl, fun w1 hw1 => by obtain ⟨q0, q1, q2⟩ := hw1; go_simp⟩) ?_
    simp only [Act.put, List.setIfInBounds_toArray, List.set_cons_zero, List.set_cons_succ]
    refine wpAnyK_takeTo 1 (some 16) (.pointer (some ⟨tb, 0, none⟩)) [2, 3, 14, 15, 16] rfl rfl (by kernel_rfl) (by kernel_rfl) (by kernel_rfl) (by kernel_rfl) (fun _ _ _ h => h) hS (Or.inl ⟨rfl, fun w1 hw1 => by obtain ⟨q0, q1, q2⟩ := hw1; go_simp⟩) ?_
    simp only [Act.put, List.setIfInBounds_toArray, List.set_cons_zero, List.set_cons_succ]
    refine wpAnyK_takeTo 2 (some 17) (.pointer (some ⟨tb, 3, none⟩)) [3, 14, 15, 16] rfl rfl (by kernel_rfl) (by kernel_rfl) (by kernel_rfl) (by kernel_rfl) (fun _ _ _ h => h) hS (Or.inl ⟨rfl, fun w1 hw1 => by obtain ⟨q0, q1, q2⟩ := hw1; go_simp⟩) ?_
    simp only [Act.put, List.setIfInBounds_toArray, List.set_cons_zero, List.set_cons_succ]
    refine wpAnyK_takeTo 3 (some 18) (.int .i64 cur) [14, 15, 16] rfl rfl (by kernel_rfl) (by kernel_rfl) (by kernel_rfl) (by kernel_rfl) (fun _ _ _ h => h) hS (Or.inl ⟨rfl, fun w1 hw1 => by obtain ⟨q0, q1, q2⟩ := hw1; go_simp⟩) ?_
    simp only [Act.put, List.setIfInBounds_toArray, List.set_cons_zero, List.set_cons_succ]
    refine wpAnyK_takeTo 4 (some 19) (.pointer (some ⟨d.g, 0, none⟩)) [5, 6, 7, 8, 13, 14, 15, 16] rfl rfl (by kernel_rfl) (by kernel_rfl) (by kernel_rfl) (by kernel_rfl) (fun _ _ _ h => h) hS (Or.inl ⟨rfl, fun w1 hw1 => by obtain ⟨q0, q1, q2⟩ := hw1; go_simp⟩) ?_
    simp only [Act.put, List.setIfInBounds_toArray, List.set_cons_zero, List.set_cons_succ]
    refine wpAnyK_takeTo 5 (some 20) (.pointer (some ⟨d.g, 0, none⟩)) [6, 7, 8, 13, 14, 15, 16] rfl rfl (by kernel_rfl) (by kernel_rfl) (by kernel_rfl) (by kernel_rfl) (fun _ _ _ h => h) hS (Or.inl ⟨rfl, fun w1 hw1 => by obtain ⟨q0, q1, q2⟩ := hw1; go_simp⟩) ?_
    simp only [Act.put, List.setIfInBounds_toArray, List.set_cons_zero, List.set_cons_succ]
    refine wpAnyK_takeTo 6 (some 21) (.pointer (some ⟨d.g, 1, none⟩)) [7, 8, 13, 14, 15, 16] rfl rfl (by kernel_rfl) (by kernel_rfl) (by kernel_rfl) (by kernel_rfl) (fun _ _ _ h => h) hS (Or.inl ⟨rfl, fun w1 hw1 => by obtain ⟨q0, q1, q2⟩ := hw1; go_simp⟩) ?_
    simp only [Act.put, List.setIfInBounds_toArray, List.set_cons_zero, List.set_cons_succ]
    refine wpAnyK_takeTo 7 (some 22) (.slice la n lc) [8, 13, 14, 15, 16] rfl rfl (by kernel_rfl) (by kernel_rfl) (by kernel_rfl) (by kernel_rfl) (fun _ _ _ h => h) hS (Or.inl ⟨rfl, fun w1 hw1 => by obtain ⟨q0, q1, q2⟩ := hw1; go_simp⟩) ?_
    simp only [Act.put, List.setIfInBounds_toArray, List.set_cons_zero, List.set_cons_succ]
    refine wpAnyK_takeTo 9 (some 24) (.pointer (some ⟨d.g, 0, none⟩)) [10, 11, 12, 13, 14, 15, 16] rfl rfl (by kernel_rfl) (by kernel_rfl) (by kernel_rfl) (by kernel_rfl) (fun _ _ _ h => h) hS (Or.inl ⟨rfl, fun w1 hw1 => by obtain ⟨q0, q1, q2⟩ := hw1; go_simp⟩) ?_
    simp only [Act.put, List.setIfInBounds_toArray, List.set_cons_zero, List.set_cons_succ]
    refine wpAnyK_takeTo 10 (some 25) (.pointer (some ⟨d.g, 0, none⟩)) [11, 12, 13, 14, 15, 16] rfl rfl (by kernel_rfl) (by kernel_rfl) (by kernel_rfl) (by kernel_rfl) (fun _ _ _ h => h) hS (Or.inl ⟨rfl, fun w1 hw1 => by obtain ⟨q0, q1, q2⟩ := hw1; go_simp⟩) ?_
    simp only [Act.put, List.setIfInBounds_toArray, List.set_cons_zero, List.set_cons_succ]
    refine wpAnyK_takeTo 11 (some 26) (.pointer (some ⟨d.g, 2, none⟩)) [12, 13, 14, 15, 16] rfl rfl (by kernel_rfl) (by kernel_rfl) (by kernel_rfl) (by kernel_rfl) (fun _ _ _ h => h) hS (Or.inl ⟨rfl, fun w1 hw1 => by obtain ⟨q0, q1, q2⟩ := hw1; go_simp⟩) ?_
    simp only [Act.put, List.setIfInBounds_toArray, List.set_cons_zero, List.set_cons_succ]
    refine wpAnyK_takeTo 12 (some 27) (.slice ka m kc') [13, 14, 15, 16] rfl rfl (by kernel_rfl) (by kernel_rfl) (by kernel_rfl) (by kernel_rfl) (fun _ _ _ h => h) hS (Or.inl ⟨rfl, fun w1 hw1 => by obtain ⟨q0, q1, q2⟩ := hw1; go_simp⟩) ?_
    simp only [Act.put, List.setIfInBounds_toArray, List.set_cons_zero, List.set_cons_succ]
    refine wpAnyK_one (i := 8) (by kernel_rfl) rfl rfl ?_
    refine wp_call_to (some 23) rfl 87 #[.slice la n lc] (by go_simp) (HC1.out _ HD2.out) ?_
    rintro e V1 ⟨v1, rfl, hr1, hf1, g1⟩
    obtain ⟨a1, c1, rfl⟩ := shape_n hr1
    replace hS := hS.fr g1
    refine ⟨_, rfl, fun _ => hS, ?_⟩
    simp only [Act.put, List.setIfInBounds_toArray, List.set_cons_zero, List.set_cons_succ]
    have g2 := HD2.out.two g1
    refine wpAnyK_one (i := 13) (by kernel_rfl) rfl rfl ?_
    refine wp_call_to (some 28) rfl 88 #[.slice ka m kc'] (by go_simp) (HC2.out _ g2) ?_
    rintro e V2 ⟨v2, rfl, hr2, hf2, g3⟩
    obtain ⟨a2, c2, rfl⟩ := shape_n hr2
    replace hS := hS.fr g3
    refine ⟨_, rfl, fun _ => hS, ?_⟩
    simp only [Act.put, List.setIfInBounds_toArray, List.set_cons_zero, List.set_cons_succ]
    refine wpAnyK_takeTo 14 (some 29) (.agg #[.int .i64 cur, .slice a1 n c1, .slice a2 m c2]) [15, 16] rfl rfl (by kernel_rfl) (by kernel_rfl) (by kernel_rfl) (by kernel_rfl) (fun _ _ _ h => h) hS (Or.inl ⟨rfl, fun w1 hw1 => by obtain ⟨q0, q1, q2⟩ := hw1; go_simp⟩) ?_
    simp only [Act.put, List.setIfInBounds_toArray, List.set_cons_zero, List.set_cons_succ]
    have g4 := g2.two g3
    have FA := Fr.alloc V2 (.cells #[.int .i64 cur, .slice a1 n c1, .slice a2 m c2] 78) (fun _ => False)
    obtain ⟨B, hB⟩ : ∃ B, B = V2.heap.size := ⟨_, rfl⟩
    obtain ⟨V3, hV3⟩ : ∃ V3, V3 = V2.alloc (.cells #[.int .i64 cur, .slice a1 n c1, .slice a2 m c2] 78) := ⟨_, rfl⟩
    have b3 : V3.heap[B]? = some (.cells #[.int .i64 cur, .slice a1 n c1, .slice a2 m c2] 78 (0, 0)) := by rw [hV3, hB]; exact heap_alloc_new V2 _
    rw [← hV3] at FA
    have hBl : B < V3.heap.size := (Array.getElem?_eq_some_iff.1 b3).1
    have hBw : w.heap.size ≤ B := by have := g4.size; omega
    have g5 := g4.two FA
    have hl1 : ∀ k, (Value.slice a1 n c1).ownBlock = some k → w.heap.size ≤ k ∧ k < V3.heap.size := fun k hk => by
      have h1 := hf1 k hk
      have h2 := ownsRow_lt hr1 hk
      have h3 := HD2.out.size
      have h4 := (g3.two FA).size
      omega
    have hl2 : ∀ k, (Value.slice a2 m c2).ownBlock = some k → w.heap.size ≤ k ∧ k < V3.heap.size := fun k hk => by
      have h1 := hf2 k hk
      have h2 := ownsRow_lt hr2 hk
      have h3 := g2.size
      have h4 := FA.size
      omega
    have hNO := HN.out
    have hnew : NodeP cur V3 ⟨B, fun k => (w.heap.size ≤ k ∧ k < V3.heap.size) ∨ ∃ e ∈ ks, e.X k, fun k => (w.heap.size ≤ k ∧ k < V3.heap.size) ∨ ∃ e ∈ ks, e.Y k, d.F⟩ cur (.slice a1 n c1) (.slice a2 m c2) L ks :=
      { box := b3
        row := by rw [← HNE.out]; exact ownsRow_fr hr1 (g3.two FA) (fun _ _ h => h)
        krow := by rw [← HME.out]; exact ownsRow_fr hr2 FA (fun _ _ h => h)
        gx := .inl ⟨hBw, hBl⟩
        lx := fun k hk => .inl (hl1 k hk)
        kx := fun k hk => .inl (hl2 k hk)
        gy := fun _ => .inl ⟨hBw, hBl⟩
        ly := fun _ k hk => .inl (hl1 k hk)
        ky := fun _ k hk => .inl (hl2 k hk)
        tle := Int.le_refl _
        yx := fun k hk => hk.imp id (fun ⟨e, he, hk⟩ => ⟨e, he, hNO.yk e he k hk⟩)
        xlt := fun k hk => by
          rcases hk with hk | ⟨e, he, hk⟩
          · exact hk.2
          · have := hNO.xlt k (hNO.sx e he k hk); have := g5.size; omega
        sx := fun e he k hk => .inr ⟨e, he, hk⟩
        sy := fun e he k hk => .inr ⟨e, he, hk⟩
        yk := hNO.yk
        apg := fun e he hk => by have := hNO.xlt _ (hNO.sx e he _ hk); dsimp only at this; omega
        apl := fun e he k hk hx => by have := hNO.xlt k (hNO.sx e he k hx); have := (hl1 k hk).1; omega
        apk := fun e he k hk hx => by have := hNO.xlt k (hNO.sx e he k hx); have := (hl2 k hk).1; omega
        apart := hNO.apart }
    have HRES : Hid (OwnQ o cur h lo L ks w d (.returned (.pointer (some ⟨B, 0, none⟩))) V3) := hide ⟨⟨B, _, _, d.F⟩, _, _, rfl, ⟨hnew, hNO.low, hNO.high, hNO.flat⟩, HK.out.fr g5 (fun _ _ _ _ h => h), rfl, fun k hk => by
        rcases hk with hk | ⟨e, he, hk⟩
        · exact .inr hk.1
        · exact .inl (hNO.sx e he k hk), fun k hk => by
        rcases hk with hk | ⟨e, he, hk⟩
        · exact .inr hk.1
        · exact .inl (hNO.sy e he k hk), g5⟩
    have HB := hide hB
    have HV3 := hide hV3
    clear hnew hNO hl1 hl2 hBl hBw g5 b3 FA g4 hB hV3 hr1 hr2 hf1 hf2
    refine wpAnyK_one (i := 15) (by kernel_rfl) rfl rfl ?_
    go_simp
    rw [← HV3.out, ← HB.out]
    refine wpAnyK_one (i := 16) (by kernel_rfl) rfl rfl ?_
    go_simp
    refine wpAnyK_done (by kernel_rfl) ?_ _
    go_wp2
    go_ret
    exact HRES.out
end Go.Proofs.YtigkinakhijfoaaGreat
