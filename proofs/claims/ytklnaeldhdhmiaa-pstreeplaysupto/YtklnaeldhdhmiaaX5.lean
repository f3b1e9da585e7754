/- The document's Add. -/
import Derived.Test.YtklnaeldhdhmiaaX4
namespace Go.Proofs.Ytklnaeldhdhmiaa
open Go.RowKit Go.Sort
set_option maxRecDepth 100000
set_option linter.unusedVariables false
set_option linter.unusedSimpArgs false

def aheadB (p q : Pt) : Bool := decide (p.x < q.x) || (decide (p.x = q.x) && decide (p.id < q.id))
theorem aheadB_iff {p q : Pt} : aheadB p q = true ↔ aheadP p q := by unfold aheadB aheadP; simp
def stepI (p : Pt) (s : List Pt × Bool) (q : Pt) : List Pt × Bool := if !s.2 && aheadB p q then (s.1 ++ [p] ++ [q], true) else (s.1 ++ [q], s.2)
def insS (p : Pt) (L : List Pt) : List Pt × Bool := L.foldl (stepI p) ([], false)
def insR (p : Pt) : List Pt → List Pt
  | [] => [p]
  | q :: l => if aheadB p q then p :: q :: l else q :: insR p l
def endI (p : Pt) (s : List Pt × Bool) : List Pt := if s.2 then s.1 else s.1 ++ [p]
theorem fold_true (p : Pt) : ∀ (L A : List Pt), L.foldl (stepI p) (A, true) = (A ++ L, true)
  | [], A => by simp
  | q :: l, A => by simp [stepI, fold_true p l (A ++ [q])]
theorem fold_false (p : Pt) : ∀ (L A : List Pt), endI p (L.foldl (stepI p) (A, false)) = A ++ insR p L
  | [], A => by simp [endI, insR]
  | q :: l, A => by
    rw [List.foldl_cons]
    by_cases h : aheadB p q = true
    · simp [stepI, h, fold_true, endI, insR]
    · have h : aheadB p q = false := by simpa using h
      have := fold_false p l (A ++ [q])
      simp [stepI, h, insR] at this ⊢
      exact this
theorem insS_end (p : Pt) (L : List Pt) : endI p (insS p L) = insR p L := by have := fold_false p L []; rw [List.nil_append] at this; exact this
theorem insS_next {p q : Pt} {L : List Pt} {j : Nat} (hq : L[j]? = some q) : insS p (L.take (j + 1)) = stepI p (insS p (L.take j)) q := by
  unfold insS
  rw [List.take_add_one, hq]
  simp
theorem fold_len (p : Pt) : ∀ (L : List Pt) (s : List Pt × Bool), (L.foldl (stepI p) s).1.length ≤ s.1.length + 2 * L.length
  | [], s => by simp
  | q :: l, s => by
    rw [List.foldl_cons]
    refine Nat.le_trans (fold_len p l _) ?_
    unfold stepI
    split <;> simp <;> omega
theorem insS_len (p : Pt) (L : List Pt) : (insS p L).1.length ≤ 2 * L.length := by
  have := fold_len p L ([], false)
  simpa [insS] using this
theorem insR_perm (p : Pt) : ∀ L : List Pt, (insR p L).Perm (p :: L)
  | [] => List.Perm.refl _
  | q :: l => by
    unfold insR
    split
    · exact List.Perm.refl _
    · exact ((insR_perm p l).cons q).trans (List.Perm.swap p q l)
theorem insR_sorted (p : Pt) : ∀ {L : List Pt}, L.Pairwise aheadP → (∀ q ∈ L, q.id ≠ p.id) → (insR p L).Pairwise aheadP
  | [], _, _ => by simp [insR]
  | q :: l, h, hn => by
    rw [List.pairwise_cons] at h
    unfold insR
    split
    · rename_i hb
      have hb := aheadB_iff.1 hb
      rw [List.pairwise_cons, List.pairwise_cons]
      refine ⟨fun z hz => ?_, h⟩
      rcases List.mem_cons.1 hz with rfl | hz
      · exact hb
      · exact aheadP_trans hb (h.1 z hz)
    · rename_i hb
      rw [List.pairwise_cons]
      refine ⟨fun z hz => ?_, insR_sorted p h.2 (fun z hz => hn z (List.mem_cons_of_mem _ hz))⟩
      rcases List.mem_cons.1 ((insR_perm p l).mem_iff.1 hz) with rfl | hz
      · have hb : ¬ aheadP z q := fun h => hb (aheadB_iff.2 h)
        have := hn q List.mem_cons_self
        unfold aheadP at hb ⊢
        omega
      · exact h.1 z hz
theorem RowG.under {w w1 W : World} {v : Value} {M : List Pt} (h : RowG w1 v M W) (f : Fr w w1 (fun _ => False)) : RowG w v M W :=
  ⟨h.1, f.two h.2.1, fun k hk => Nat.le_trans f.size (h.2.2 k hk)⟩
set_option maxHeartbeats 8000000 in
theorem addR_any {w : World} {a : Option Addr} {n c : Nat} {L : List Pt} (hL : OwnR w (.slice a n c) L) (hn : L.length = n) (hnb : n ≤ 1048576) (p : Pt) : Calls Try.prog 16 #[.slice a n c, p.agg] w fun e w' =>
    ((∃ q ∈ L, q.id = p.id) ∧ e = .returned (.tuple #[.slice a n c, .int .i64 90]) ∧ Fr w w' (fun _ => False)) ∨ ((∀ q ∈ L, q.id ≠ p.id) ∧ ∃ v, e = .returned (.tuple #[v, .int .i64 0]) ∧ RowG w v (insR p L) w') := by
  have HN := hide hn
  have F1 := Fr.alloc w (.cells #[.int .i64 p.x, .int .i64 p.y, .int .i64 p.id] 56) (fun _ => False)
  have b1 : BoxR (w.alloc (.cells #[.int .i64 p.x, .int .i64 p.y, .int .i64 p.id] 56)) w.heap.size p := heap_alloc_new w _
  have hL1 := hL.fr F1 (fun _ _ h => h)
  unfold Pt.agg
  go_enter Try.func16, Try.ntmps16
  go_wp2_with fail
  generalize (w.alloc (.cells #[.int .i64 p.x, .int .i64 p.y, .int .i64 p.id] 56)) = w1 at *
  generalize w.heap.size = g0 at *
  have HL := hide hL1
  have HF1 := hide F1
  have HB := hide b1
  clear hL hL1 F1 b1 hn
  go_loopw [6] (fun ix wr => ∃ (j : Nat), j ≤ n ∧ ix = .int .i64 (j : Int) ∧ (∀ (k : Nat) (q : Pt), k < j → L[k]? = some q → q.id ≠ p.id) ∧ Fr w1 wr (fun _ => False)) (fun ix _ => n - (intOf ix).toNat)
  case atStart => exact ⟨0, Nat.zero_le _, rfl, fun k q hk => by omega, Fr.refl _ _⟩
  case round =>
    rename World => Y
    obtain ⟨j, hj, rfl, hall, hfy⟩ := hrel
    have HAL := hide hall
    have HFY := hide hfy
    clear hall hfy
    rcases Nat.lt_or_ge j n with hlt | hge
    · obtain ⟨q, hq⟩ : ∃ q, L[j]? = some q := ⟨_, List.getElem?_eq_getElem (by rw [HN.out]; exact hlt)⟩
      have D := Fr.drew Y (fun _ => False)
      obtain ⟨gl, ha, u⟩ := OwnR.at (OwnR.fr HL.out (HFY.out.two D) (fun _ _ h => h)) hq
      subst ha
      have HQ := hide hq
      obtain ⟨e1, e2, e3⟩ := u
      have HFd := hide (HFY.out.two D)
      obtain ⟨k1, k2, k3⟩ := (HB.out.fr HFd.out (fun h => h)).pt
      clear hq D HFY
      go_wp2_with fail
      refine wp_region_K (fun _ => true) (fun U : World => U = Y.drew) (by kernel_rfl) ?_
      generalize Y.drew = U at *
      have hS : (fun V : World => V = U) U := rfl
      by_cases hgt : q.id = p.id
      · have hgtb : (q.id == p.id) = true := by simp [hgt]
        have HG := hide hgt
        clear hgt
        refine wpAnyK_takeTo 0 (some 16) (.slice (some ⟨gl, 0, none⟩) n c) [2, 3, 4, 7] rfl rfl (by kernel_rfl) (by kernel_rfl) (by kernel_rfl) (by kernel_rfl) (fun _ _ _ h => h) hS (Or.inl ⟨rfl, fun w2 hw1 => by have hw1 : w2 = U := hw1; subst hw1; go_simp⟩) ?_
        simp only [Act.put, List.setIfInBounds_toArray, List.set_cons_zero, List.set_cons_succ]
        refine wpAnyK_takeTo 1 (some 17) (.int .i64 (j : Int)) [2, 3, 4, 7] rfl rfl (by kernel_rfl) (by kernel_rfl) (by kernel_rfl) (by kernel_rfl) (fun _ _ _ h => h) hS (Or.inl ⟨rfl, fun w2 hw1 => by have hw1 : w2 = U := hw1; subst hw1; go_simp⟩) ?_
        simp only [Act.put, List.setIfInBounds_toArray, List.set_cons_zero, List.set_cons_succ]
        refine wpAnyK_takeTo 2 (some 18) (.pointer (some ⟨gl, j * 3, none⟩)) [3, 4, 7] rfl rfl (by kernel_rfl) (by kernel_rfl) (by kernel_rfl) (by kernel_rfl) (fun _ _ _ h => h) hS (Or.inl ⟨rfl, fun w2 hw1 => by have hw1 : w2 = U := hw1; subst hw1; go_simp⟩) ?_
        simp only [Act.put, List.setIfInBounds_toArray, List.set_cons_zero, List.set_cons_succ]
        refine wpAnyK_takeTo 3 (some 19) (.pointer (some ⟨gl, j * 3 + 2, none⟩)) [4, 7] rfl rfl (by kernel_rfl) (by kernel_rfl) (by kernel_rfl) (by kernel_rfl) (fun _ _ _ h => h) hS (Or.inl ⟨rfl, fun w2 hw1 => by have hw1 : w2 = U := hw1; subst hw1; go_simp⟩) ?_
        simp only [Act.put, List.setIfInBounds_toArray, List.set_cons_zero, List.set_cons_succ]
        refine wpAnyK_takeTo 4 (some 20) (.int .i64 q.id) [7] rfl rfl (by kernel_rfl) (by kernel_rfl) (by kernel_rfl) (by kernel_rfl) (fun _ _ _ h => h) hS (Or.inl ⟨rfl, fun w2 hw1 => by have hw1 : w2 = U := hw1; subst hw1; go_simp⟩) ?_
        simp only [Act.put, List.setIfInBounds_toArray, List.set_cons_zero, List.set_cons_succ]
        refine wpAnyK_takeTo 5 (some 21) (.pointer (some ⟨g0, 2, none⟩)) [6, 7] rfl rfl (by kernel_rfl) (by kernel_rfl) (by kernel_rfl) (by kernel_rfl) (fun _ _ _ h => h) hS (Or.inl ⟨rfl, fun w2 hw1 => by have hw1 : w2 = U := hw1; subst hw1; go_simp⟩) ?_
        simp only [Act.put, List.setIfInBounds_toArray, List.set_cons_zero, List.set_cons_succ]
        refine wpAnyK_takeTo 6 (some 22) (.int .i64 p.id) [7] rfl rfl (by kernel_rfl) (by kernel_rfl) (by kernel_rfl) (by kernel_rfl) (fun _ _ _ h => h) hS (Or.inl ⟨rfl, fun w2 hw1 => by have hw1 : w2 = U := hw1; subst hw1; go_simp⟩) ?_
        simp only [Act.put, List.setIfInBounds_toArray, List.set_cons_zero, List.set_cons_succ]
        refine wpAnyK_takeTo 7 (some 23) (.bool true) [] rfl rfl (by kernel_rfl) (by kernel_rfl) (by kernel_rfl) (by kernel_rfl) (fun _ _ _ h => h) hS (Or.inl ⟨rfl, fun w2 hw1 => by have hw1 : w2 = U := hw1; subst hw1; go_simp⟩) ?_
        simp only [Act.put, List.setIfInBounds_toArray, List.set_cons_zero, List.set_cons_succ]
        refine wpAnyK_done (by kernel_rfl) ?_ _
        clear hS e1 e2 e3 k1 k2 k3
        go_wp2
        go_ret2
        exact .inl ⟨⟨q, List.mem_of_getElem? HQ.out, HG.out⟩, rfl, HF1.out.two HFd.out⟩
      · have hgtb : (q.id == p.id) = false := by simp [hgt]
        have HG := hide hgt
        clear hgt
        refine wpAnyK_takeTo 0 (some 16) (.slice (some ⟨gl, 0, none⟩) n c) [2, 3, 4, 7] rfl rfl (by kernel_rfl) (by kernel_rfl) (by kernel_rfl) (by kernel_rfl) (fun _ _ _ h => h) hS (Or.inl ⟨rfl, fun w2 hw1 => by have hw1 : w2 = U := hw1; subst hw1; go_simp⟩) ?_
        simp only [Act.put, List.setIfInBounds_toArray, List.set_cons_zero, List.set_cons_succ]
        refine wpAnyK_takeTo 1 (some 17) (.int .i64 (j : Int)) [2, 3, 4, 7] rfl rfl (by kernel_rfl) (by kernel_rfl) (by kernel_rfl) (by kernel_rfl) (fun _ _ _ h => h) hS (Or.inl ⟨rfl, fun w2 hw1 => by have hw1 : w2 = U := hw1; subst hw1; go_simp⟩) ?_
        simp only [Act.put, List.setIfInBounds_toArray, List.set_cons_zero, List.set_cons_succ]
        refine wpAnyK_takeTo 2 (some 18) (.pointer (some ⟨gl, j * 3, none⟩)) [3, 4, 7] rfl rfl (by kernel_rfl) (by kernel_rfl) (by kernel_rfl) (by kernel_rfl) (fun _ _ _ h => h) hS (Or.inl ⟨rfl, fun w2 hw1 => by have hw1 : w2 = U := hw1; subst hw1; go_simp⟩) ?_
        simp only [Act.put, List.setIfInBounds_toArray, List.set_cons_zero, List.set_cons_succ]
        refine wpAnyK_takeTo 3 (some 19) (.pointer (some ⟨gl, j * 3 + 2, none⟩)) [4, 7] rfl rfl (by kernel_rfl) (by kernel_rfl) (by kernel_rfl) (by kernel_rfl) (fun _ _ _ h => h) hS (Or.inl ⟨rfl, fun w2 hw1 => by have hw1 : w2 = U := hw1; subst hw1; go_simp⟩) ?_
        simp only [Act.put, List.setIfInBounds_toArray, List.set_cons_zero, List.set_cons_succ]
        refine wpAnyK_takeTo 4 (some 20) (.int .i64 q.id) [7] rfl rfl (by kernel_rfl) (by kernel_rfl) (by kernel_rfl) (by kernel_rfl) (fun _ _ _ h => h) hS (Or.inl ⟨rfl, fun w2 hw1 => by have hw1 : w2 = U := hw1; subst hw1; go_simp⟩) ?_
        simp only [Act.put, List.setIfInBounds_toArray, List.set_cons_zero, List.set_cons_succ]
        refine wpAnyK_takeTo 5 (some 21) (.pointer (some ⟨g0, 2, none⟩)) [6, 7] rfl rfl (by kernel_rfl) (by kernel_rfl) (by kernel_rfl) (by kernel_rfl) (fun _ _ _ h => h) hS (Or.inl ⟨rfl, fun w2 hw1 => by have hw1 : w2 = U := hw1; subst hw1; go_simp⟩) ?_
        simp only [Act.put, List.setIfInBounds_toArray, List.set_cons_zero, List.set_cons_succ]
        refine wpAnyK_takeTo 6 (some 22) (.int .i64 p.id) [7] rfl rfl (by kernel_rfl) (by kernel_rfl) (by kernel_rfl) (by kernel_rfl) (fun _ _ _ h => h) hS (Or.inl ⟨rfl, fun w2 hw1 => by have hw1 : w2 = U := hw1; subst hw1; go_simp⟩) ?_
        simp only [Act.put, List.setIfInBounds_toArray, List.set_cons_zero, List.set_cons_succ]
        refine wpAnyK_takeTo 7 (some 23) (.bool false) [] rfl rfl (by kernel_rfl) (by kernel_rfl) (by kernel_rfl) (by kernel_rfl) (fun _ _ _ h => h) hS (Or.inl ⟨rfl, fun w2 hw1 => by have hw1 : w2 = U := hw1; subst hw1; go_simp⟩) ?_
        simp only [Act.put, List.setIfInBounds_toArray, List.set_cons_zero, List.set_cons_succ]
        refine wpAnyK_done (by kernel_rfl) ?_ _
        clear hS e1 e2 e3 k1 k2 k3
        go_wp2
        go_roundw
        case rel => exact ⟨j + 1, by omega, by go_num, fun k z hk hz => by
          rcases Nat.lt_or_ge k j with h | h
          · exact HAL.out k z h hz
          · have : k = j := by omega
            subst this
            rw [HQ.out] at hz
            cases hz
            exact HG.out, HFd.out⟩
        case measure => simp [intOf]; omega
    · have e1 : n = j := by omega
      subst e1
      have HNO : Hid (∀ q ∈ L, q.id ≠ p.id) := hide (fun q hq => by
        obtain ⟨k, hk, hk2⟩ := List.getElem_of_mem hq
        exact HAL.out k q (by rw [HN.out] at hk; exact hk) (by rw [List.getElem?_eq_getElem hk, hk2]))
      have HF2 := hide (HF1.out.two HFY.out)
      have HB2 := hide (HB.out.fr HFY.out (fun h => h))
      have HL2 := hide (OwnR.fr HL.out HFY.out (fun _ _ h => h))
      clear HAL HFY HB HL HF1 hge hj
      go_wp2_with fail
      go_loopw [7, 8, 9] (fun v b ix wr => ∃ (j : Nat), j ≤ n ∧ ix = .int .i64 (j : Int) ∧ b = .bool (insS p (L.take j)).2 ∧ RowG Y v (insS p (L.take j)).1 wr) (fun _ _ ix _ => n - (intOf ix).toNat)
      case atStart => exact ⟨0, Nat.zero_le _, rfl, rfl, OwnR.nil Y, Fr.refl _ _, fun k hk => by cases hk⟩
      case round =>
        rename World => Z
        obtain ⟨j, hj, rfl, rfl, hg⟩ := hrel
        rcases Nat.lt_or_ge j n with hlt | hge
        · obtain ⟨q, hq⟩ : ∃ q, L[j]? = some q := ⟨_, List.getElem?_eq_getElem (by rw [HN.out]; exact hlt)⟩
          have D := Fr.drew Z (fun _ => False)
          have hgd : RowG Y _ (insS p (L.take j)).1 Z.drew := ⟨hg.1.fr D (fun _ _ h => h), hg.2.1.two D, hg.2.2⟩
          obtain ⟨gl, ha, u⟩ := OwnR.at (OwnR.fr HL2.out hgd.2.1 (fun _ _ h => h)) hq
          subst ha
          obtain ⟨e1, e2, e3⟩ := u
          obtain ⟨k1, k2, k3⟩ := (HB2.out.fr hgd.2.1 (fun h => h)).pt
          have hlen : (insS p (L.take j)).1.length + 3 ≤ 2199023255552 := by
            have h1 := insS_len p (L.take j)
            have h2 := List.length_take_le j L
            have := HN.out
            omega
          have HS := hide (insS_next (p := p) hq)
          have HQ := hide hq
          have HG := hide hgd
          have HLEN := hide hlen
          clear hq D hg hgd hlen
          go_wp2_with fail
          refine wp_region_K (fun _ => true) (fun U : World => U = Z.drew) (by kernel_rfl) ?_
          generalize Z.drew = U at *
          have hS : (fun V : World => V = U) U := rfl
          generalize hs : insS p (L.take j) = s at *
          obtain ⟨M, d⟩ := s
          clear hs
          skip
          cases d
          · by_cases q1 : p.x < q.x
            · have q1b : decide (p.x < q.x) = true := by simp [q1]
              have hab : aheadB p q = true := by simp [aheadB, q1]
              refine wpAnyK_takeTo 0 (some 31) (.bool false) [1, 2, 3, 4, 5, 6, 7, 8, 9, 10, 11, 12, 13, 14, 15, 16, 17, 18, 19, 20, 21, 22, 23, 24, 25, 26, 27, 28, 29, 30, 31] rfl rfl (by kernel_rfl) (by kernel_rfl) (by kernel_rfl) (by kernel_rfl) (fun _ _ _ h => h) hS (Or.inl ⟨rfl, fun w2 hw1 => by have hw1 : w2 = U := hw1; subst hw1; go_simp⟩) ?_
              simp only [Act.put, List.setIfInBounds_toArray, List.set_cons_zero, List.set_cons_succ]
              refine wpAnyK_takeTo 1 (some 32) (.bool true) [2, 3, 4, 5, 6, 7, 8, 9, 10, 11, 12, 13, 14, 15, 16, 17, 18, 19, 20, 21, 22, 23, 24, 25, 26, 27, 28, 29, 30, 31] rfl rfl (by kernel_rfl) (by kernel_rfl) (by kernel_rfl) (by kernel_rfl) (fun _ _ _ h => h) hS (Or.inl ⟨rfl, fun w2 hw1 => by have hw1 : w2 = U := hw1; subst hw1; go_simp⟩) ?_
              simp only [Act.put, List.setIfInBounds_toArray, List.set_cons_zero, List.set_cons_succ]
              refine wpAnyK_takeTo 2 (some 33) (.bool true) [3, 4, 5, 6, 7, 8, 9, 10, 11, 12, 13, 14, 15, 16, 17, 18, 19, 20, 21, 22, 23, 24, 25, 26, 27, 28, 29, 30, 31] rfl rfl (by kernel_rfl) (by kernel_rfl) (by kernel_rfl) (by kernel_rfl) (fun _ _ _ h => h) hS (Or.inl ⟨rfl, fun w2 hw1 => by have hw1 : w2 = U := hw1; subst hw1; go_simp⟩) ?_
              simp only [Act.put, List.setIfInBounds_toArray, List.set_cons_zero, List.set_cons_succ]
              refine wpAnyK_takeTo 3 (some 34) (.pointer (some ⟨g0, 0, none⟩)) [4, 10, 11, 12, 13, 14, 15, 16, 17, 18, 19, 20, 21, 22, 23, 24, 25, 26, 27, 28, 29, 30, 31] rfl rfl (by kernel_rfl) (by kernel_rfl) (by kernel_rfl) (by kernel_rfl) (fun _ _ _ h => h) hS (Or.inl ⟨rfl, fun w2 hw1 => by have hw1 : w2 = U := hw1; subst hw1; go_simp⟩) ?_
              simp only [Act.put, List.setIfInBounds_toArray, List.set_cons_zero, List.set_cons_succ]
              refine wpAnyK_takeTo 4 (some 35) (.int .i64 p.x) [10, 11, 12, 13, 14, 15, 16, 17, 18, 19, 20, 21, 22, 23, 24, 25, 26, 27, 28, 29, 30, 31] rfl rfl (by kernel_rfl) (by kernel_rfl) (by kernel_rfl) (by kernel_rfl) (fun _ _ _ h => h) hS (Or.inl ⟨rfl, fun w2 hw1 => by have hw1 : w2 = U := hw1; subst hw1; go_simp⟩) ?_
              simp only [Act.put, List.setIfInBounds_toArray, List.set_cons_zero, List.set_cons_succ]
              refine wpAnyK_takeTo 5 (some 36) (.slice (some ⟨gl, 0, none⟩) n c) [7, 8, 9, 10, 11, 12, 13, 14, 15, 16, 17, 18, 19, 20, 21, 22, 23, 24, 25, 26, 27, 28, 29, 30, 31] rfl rfl (by kernel_rfl) (by kernel_rfl) (by kernel_rfl) (by kernel_rfl) (fun _ _ _ h => h) hS (Or.inl ⟨rfl, fun w2 hw1 => by have hw1 : w2 = U := hw1; subst hw1; go_simp⟩) ?_
              simp only [Act.put, List.setIfInBounds_toArray, List.set_cons_zero, List.set_cons_succ]
              refine wpAnyK_takeTo 6 (some 37) (.int .i64 (j : Int)) [7, 8, 9, 10, 11, 12, 13, 14, 15, 16, 17, 18, 19, 20, 21, 22, 23, 24, 25, 26, 27, 28, 29, 30, 31] rfl rfl (by kernel_rfl) (by kernel_rfl) (by kernel_rfl) (by kernel_rfl) (fun _ _ _ h => h) hS (Or.inl ⟨rfl, fun w2 hw1 => by have hw1 : w2 = U := hw1; subst hw1; go_simp⟩) ?_
              simp only [Act.put, List.setIfInBounds_toArray, List.set_cons_zero, List.set_cons_succ]
              refine wpAnyK_takeTo 7 (some 38) (.pointer (some ⟨gl, j * 3, none⟩)) [8, 9, 10, 11, 12, 13, 14, 15, 16, 17, 18, 19, 20, 21, 22, 23, 24, 25, 26, 27, 28, 29, 30, 31] rfl rfl (by kernel_rfl) (by kernel_rfl) (by kernel_rfl) (by kernel_rfl) (fun _ _ _ h => h) hS (Or.inl ⟨rfl, fun w2 hw1 => by have hw1 : w2 = U := hw1; subst hw1; go_simp⟩) ?_
              simp only [Act.put, List.setIfInBounds_toArray, List.set_cons_zero, List.set_cons_succ]
              refine wpAnyK_takeTo 8 (some 39) (.pointer (some ⟨gl, j * 3, none⟩)) [9, 10, 11, 12, 13, 14, 15, 16, 17, 18, 19, 20, 21, 22, 23, 24, 25, 26, 27, 28, 29, 30, 31] rfl rfl (by kernel_rfl) (by kernel_rfl) (by kernel_rfl) (by kernel_rfl) (fun _ _ _ h => h) hS (Or.inl ⟨rfl, fun w2 hw1 => by have hw1 : w2 = U := hw1; subst hw1; go_simp⟩) ?_
              simp only [Act.put, List.setIfInBounds_toArray, List.set_cons_zero, List.set_cons_succ]
              refine wpAnyK_takeTo 9 (some 40) (.int .i64 q.x) [10, 11, 12, 13, 14, 15, 16, 17, 18, 19, 20, 21, 22, 23, 24, 25, 26, 27, 28, 29, 30, 31] rfl rfl (by kernel_rfl) (by kernel_rfl) (by kernel_rfl) (by kernel_rfl) (fun _ _ _ h => h) hS (Or.inl ⟨rfl, fun w2 hw1 => by have hw1 : w2 = U := hw1; subst hw1; go_simp⟩) ?_
              simp only [Act.put, List.setIfInBounds_toArray, List.set_cons_zero, List.set_cons_succ]
              refine wpAnyK_takeTo 10 (some 41) (.bool true) [11, 12, 13, 14, 15, 16, 17, 18, 19, 20, 21, 22, 23, 24, 25, 26, 27, 28, 29, 30, 31] rfl rfl (by kernel_rfl) (by kernel_rfl) (by kernel_rfl) (by kernel_rfl) (fun _ _ _ h => h) hS (Or.inl ⟨rfl, fun w2 hw1 => by have hw1 : w2 = U := hw1; subst hw1; go_simp⟩) ?_
              simp only [Act.put, List.setIfInBounds_toArray, List.set_cons_zero, List.set_cons_succ]
              refine wpAnyK_takeTo 11 (some 42) (.bool true) [12, 13, 14, 15, 16, 17, 18, 19, 20, 21, 22, 23, 24, 25, 26, 27, 28, 29, 30, 31] rfl rfl (by kernel_rfl) (by kernel_rfl) (by kernel_rfl) (by kernel_rfl) (fun _ _ _ h => h) hS (Or.inl ⟨rfl, fun w2 hw1 => by have hw1 : w2 = U := hw1; subst hw1; go_simp⟩) ?_
              simp only [Act.put, List.setIfInBounds_toArray, List.set_cons_zero, List.set_cons_succ]
              refine wpAnyK_takeTo 12 (some 43) (undef) [13, 19, 20, 21, 22, 23, 24, 25, 26, 27, 28, 29, 30, 31] rfl rfl (by kernel_rfl) (by kernel_rfl) (by kernel_rfl) (by kernel_rfl) (fun _ _ _ h => h) hS (Or.inr ⟨rfl, rfl⟩) ?_
              simp only [Act.put, List.setIfInBounds_toArray, List.set_cons_zero, List.set_cons_succ]
              refine wpAnyK_takeTo 13 (some 44) (undef) [19, 20, 21, 22, 23, 24, 25, 26, 27, 28, 29, 30, 31] rfl rfl (by kernel_rfl) (by kernel_rfl) (by kernel_rfl) (by kernel_rfl) (fun _ _ _ h => h) hS (Or.inr ⟨rfl, rfl⟩) ?_
              simp only [Act.put, List.setIfInBounds_toArray, List.set_cons_zero, List.set_cons_succ]
              refine wpAnyK_takeTo 14 (some 45) (undef) [16, 17, 18, 19, 20, 21, 22, 23, 24, 25, 26, 27, 28, 29, 30, 31] rfl rfl (by kernel_rfl) (by kernel_rfl) (by kernel_rfl) (by kernel_rfl) (fun _ _ _ h => h) hS (Or.inr ⟨rfl, rfl⟩) ?_
              simp only [Act.put, List.setIfInBounds_toArray, List.set_cons_zero, List.set_cons_succ]
              refine wpAnyK_takeTo 15 (some 46) (undef) [16, 17, 18, 19, 20, 21, 22, 23, 24, 25, 26, 27, 28, 29, 30, 31] rfl rfl (by kernel_rfl) (by kernel_rfl) (by kernel_rfl) (by kernel_rfl) (fun _ _ _ h => h) hS (Or.inr ⟨rfl, rfl⟩) ?_
              simp only [Act.put, List.setIfInBounds_toArray, List.set_cons_zero, List.set_cons_succ]
              refine wpAnyK_takeTo 16 (some 47) (undef) [17, 18, 19, 20, 21, 22, 23, 24, 25, 26, 27, 28, 29, 30, 31] rfl rfl (by kernel_rfl) (by kernel_rfl) (by kernel_rfl) (by kernel_rfl) (fun _ _ _ h => h) hS (Or.inr ⟨rfl, rfl⟩) ?_
              simp only [Act.put, List.setIfInBounds_toArray, List.set_cons_zero, List.set_cons_succ]
              refine wpAnyK_takeTo 17 (some 48) (undef) [18, 19, 20, 21, 22, 23, 24, 25, 26, 27, 28, 29, 30, 31] rfl rfl (by kernel_rfl) (by kernel_rfl) (by kernel_rfl) (by kernel_rfl) (fun _ _ _ h => h) hS (Or.inr ⟨rfl, rfl⟩) ?_
              simp only [Act.put, List.setIfInBounds_toArray, List.set_cons_zero, List.set_cons_succ]
              refine wpAnyK_takeTo 18 (some 49) (undef) [19, 20, 21, 22, 23, 24, 25, 26, 27, 28, 29, 30, 31] rfl rfl (by kernel_rfl) (by kernel_rfl) (by kernel_rfl) (by kernel_rfl) (fun _ _ _ h => h) hS (Or.inr ⟨rfl, rfl⟩) ?_
              simp only [Act.put, List.setIfInBounds_toArray, List.set_cons_zero, List.set_cons_succ]
              refine wpAnyK_takeTo 19 (some 50) (undef) [20, 21, 22, 23, 24, 25, 26, 27, 28, 29, 30, 31] rfl rfl (by kernel_rfl) (by kernel_rfl) (by kernel_rfl) (by kernel_rfl) (fun _ _ _ h => h) hS (Or.inr ⟨rfl, rfl⟩) ?_
              simp only [Act.put, List.setIfInBounds_toArray, List.set_cons_zero, List.set_cons_succ]
              refine wpAnyK_takeTo 20 (some 51) (undef) [21, 22, 23, 24, 25, 26, 27, 28, 29, 30, 31] rfl rfl (by kernel_rfl) (by kernel_rfl) (by kernel_rfl) (by kernel_rfl) (fun _ _ _ h => h) hS (Or.inr ⟨rfl, rfl⟩) ?_
              simp only [Act.put, List.setIfInBounds_toArray, List.set_cons_zero, List.set_cons_succ]
              refine wpAnyK_takeTo 21 (some 52) (undef) [22, 28, 29, 30, 31] rfl rfl (by kernel_rfl) (by kernel_rfl) (by kernel_rfl) (by kernel_rfl) (fun _ _ _ h => h) hS (Or.inr ⟨rfl, rfl⟩) ?_
              simp only [Act.put, List.setIfInBounds_toArray, List.set_cons_zero, List.set_cons_succ]
              refine wpAnyK_takeTo 22 (some 53) (undef) [28, 29, 30, 31] rfl rfl (by kernel_rfl) (by kernel_rfl) (by kernel_rfl) (by kernel_rfl) (fun _ _ _ h => h) hS (Or.inr ⟨rfl, rfl⟩) ?_
              simp only [Act.put, List.setIfInBounds_toArray, List.set_cons_zero, List.set_cons_succ]
              refine wpAnyK_takeTo 23 (some 54) (undef) [25, 26, 27, 28, 29, 30, 31] rfl rfl (by kernel_rfl) (by kernel_rfl) (by kernel_rfl) (by kernel_rfl) (fun _ _ _ h => h) hS (Or.inr ⟨rfl, rfl⟩) ?_
              simp only [Act.put, List.setIfInBounds_toArray, List.set_cons_zero, List.set_cons_succ]
              refine wpAnyK_takeTo 24 (some 55) (undef) [25, 26, 27, 28, 29, 30, 31] rfl rfl (by kernel_rfl) (by kernel_rfl) (by kernel_rfl) (by kernel_rfl) (fun _ _ _ h => h) hS (Or.inr ⟨rfl, rfl⟩) ?_
              simp only [Act.put, List.setIfInBounds_toArray, List.set_cons_zero, List.set_cons_succ]
              refine wpAnyK_takeTo 25 (some 56) (undef) [26, 27, 28, 29, 30, 31] rfl rfl (by kernel_rfl) (by kernel_rfl) (by kernel_rfl) (by kernel_rfl) (fun _ _ _ h => h) hS (Or.inr ⟨rfl, rfl⟩) ?_
              simp only [Act.put, List.setIfInBounds_toArray, List.set_cons_zero, List.set_cons_succ]
              refine wpAnyK_takeTo 26 (some 57) (undef) [27, 28, 29, 30, 31] rfl rfl (by kernel_rfl) (by kernel_rfl) (by kernel_rfl) (by kernel_rfl) (fun _ _ _ h => h) hS (Or.inr ⟨rfl, rfl⟩) ?_
              simp only [Act.put, List.setIfInBounds_toArray, List.set_cons_zero, List.set_cons_succ]
              refine wpAnyK_takeTo 27 (some 58) (undef) [28, 29, 30, 31] rfl rfl (by kernel_rfl) (by kernel_rfl) (by kernel_rfl) (by kernel_rfl) (fun _ _ _ h => h) hS (Or.inr ⟨rfl, rfl⟩) ?_
              simp only [Act.put, List.setIfInBounds_toArray, List.set_cons_zero, List.set_cons_succ]
              refine wpAnyK_takeTo 28 (some 59) (undef) [29, 30, 31] rfl rfl (by kernel_rfl) (by kernel_rfl) (by kernel_rfl) (by kernel_rfl) (fun _ _ _ h => h) hS (Or.inr ⟨rfl, rfl⟩) ?_
              simp only [Act.put, List.setIfInBounds_toArray, List.set_cons_zero, List.set_cons_succ]
              refine wpAnyK_takeTo 29 (some 60) (undef) [30, 31] rfl rfl (by kernel_rfl) (by kernel_rfl) (by kernel_rfl) (by kernel_rfl) (fun _ _ _ h => h) hS (Or.inr ⟨rfl, rfl⟩) ?_
              simp only [Act.put, List.setIfInBounds_toArray, List.set_cons_zero, List.set_cons_succ]
              refine wpAnyK_takeTo 30 (some 61) (.bool true) [31] rfl rfl (by kernel_rfl) (by kernel_rfl) (by kernel_rfl) (by kernel_rfl) (fun _ _ _ h => h) hS (Or.inl ⟨rfl, fun w2 hw1 => by have hw1 : w2 = U := hw1; subst hw1; go_simp⟩) ?_
              simp only [Act.put, List.setIfInBounds_toArray, List.set_cons_zero, List.set_cons_succ]
              refine wpAnyK_takeTo 31 (some 62) (.bool true) [] rfl rfl (by kernel_rfl) (by kernel_rfl) (by kernel_rfl) (by kernel_rfl) (fun _ _ _ h => h) hS (Or.inl ⟨rfl, fun w2 hw1 => by have hw1 : w2 = U := hw1; subst hw1; go_simp⟩) ?_
              simp only [Act.put, List.setIfInBounds_toArray, List.set_cons_zero, List.set_cons_succ]
              refine wpAnyK_done (by kernel_rfl) ?_ _
              obtain ⟨v', Z', hr, hg'⟩ := (show RowG Y _ M U from HG.out).push p 26 (by have h : M.length + 3 ≤ 2199023255552 := HLEN.out; omega)
              obtain ⟨v2, Z2, hr2, hg2⟩ := hg'.push q 26 (by have h : M.length + 3 ≤ 2199023255552 := HLEN.out; simp; omega)
              have HS2 : Hid (insS p (L.take (j + 1)) = (M ++ [p] ++ [q], true)) := hide (by rw [HS.out]; simp [stepI, hab])
              obtain ⟨gl2, hgl2, f1, f2, f3⟩ := OwnR.at (OwnR.fr HL2.out hg'.2.1 (fun _ _ h => h)) HQ.out
              cases hgl2
              have HG2 := hide hg2
              clear hg' hg2 hS
              go_wp2_with (first | (refine wpList_plain rfl fun _ hK => wp_append_to (.tmp 63) (.tmp 65) 26 rfl _ rfl _ rfl _ (.slice (some ⟨U.heap.size, 0, none⟩) 1 1) rfl rfl _ _ hr (hK _ _ ?_); clear hK) | (refine wpList_plain rfl fun _ hK => wp_append_to (.tmp 67) (.tmp 72) 26 rfl _ rfl _ rfl _ (.slice (some ⟨Z'.heap.size, 0, none⟩) 1 1) rfl rfl _ _ hr2 (hK _ _ ?_); clear hK))
              go_roundw
              case rel => exact ⟨j + 1, by omega, by go_num, by rw [HS2.out], by rw [HS2.out]; exact HG2.out⟩
              case measure => simp [intOf]; omega
            · have q1b : decide (p.x < q.x) = false := by simpa using q1
              by_cases q2 : p.x = q.x
              · have q2b : (p.x == q.x) = true := by simp [q2]
                by_cases q3 : p.id < q.id
                · have q3b : decide (p.id < q.id) = true := by simp [q3]
                  have hab : aheadB p q = true := by simp [aheadB, q2, q3]
                  clear q2
                  refine wpAnyK_takeTo 0 (some 31) (.bool false) [1, 2, 3, 4, 5, 6, 7, 8, 9, 10, 11, 12, 13, 14, 15, 16, 17, 18, 19, 20, 21, 22, 23, 24, 25, 26, 27, 28, 29, 30, 31] rfl rfl (by kernel_rfl) (by kernel_rfl) (by kernel_rfl) (by kernel_rfl) (fun _ _ _ h => h) hS (Or.inl ⟨rfl, fun w2 hw1 => by have hw1 : w2 = U := hw1; subst hw1; go_simp⟩) ?_
                  simp only [Act.put, List.setIfInBounds_toArray, List.set_cons_zero, List.set_cons_succ]
                  refine wpAnyK_takeTo 1 (some 32) (.bool true) [2, 3, 4, 5, 6, 7, 8, 9, 10, 11, 12, 13, 14, 15, 16, 17, 18, 19, 20, 21, 22, 23, 24, 25, 26, 27, 28, 29, 30, 31] rfl rfl (by kernel_rfl) (by kernel_rfl) (by kernel_rfl) (by kernel_rfl) (fun _ _ _ h => h) hS (Or.inl ⟨rfl, fun w2 hw1 => by have hw1 : w2 = U := hw1; subst hw1; go_simp⟩) ?_
                  simp only [Act.put, List.setIfInBounds_toArray, List.set_cons_zero, List.set_cons_succ]
                  refine wpAnyK_takeTo 2 (some 33) (.bool true) [3, 4, 5, 6, 7, 8, 9, 10, 11, 12, 13, 14, 15, 16, 17, 18, 19, 20, 21, 22, 23, 24, 25, 26, 27, 28, 29, 30, 31] rfl rfl (by kernel_rfl) (by kernel_rfl) (by kernel_rfl) (by kernel_rfl) (fun _ _ _ h => h) hS (Or.inl ⟨rfl, fun w2 hw1 => by have hw1 : w2 = U := hw1; subst hw1; go_simp⟩) ?_
                  simp only [Act.put, List.setIfInBounds_toArray, List.set_cons_zero, List.set_cons_succ]
                  refine wpAnyK_takeTo 3 (some 34) (.pointer (some ⟨g0, 0, none⟩)) [4, 10, 11, 12, 13, 14, 15, 16, 17, 18, 19, 20, 21, 22, 23, 24, 25, 26, 27, 28, 29, 30, 31] rfl rfl (by kernel_rfl) (by kernel_rfl) (by kernel_rfl) (by kernel_rfl) (fun _ _ _ h => h) hS (Or.inl ⟨rfl, fun w2 hw1 => by have hw1 : w2 = U := hw1; subst hw1; go_simp⟩) ?_
                  simp only [Act.put, List.setIfInBounds_toArray, List.set_cons_zero, List.set_cons_succ]
                  refine wpAnyK_takeTo 4 (some 35) (.int .i64 p.x) [10, 11, 12, 13, 14, 15, 16, 17, 18, 19, 20, 21, 22, 23, 24, 25, 26, 27, 28, 29, 30, 31] rfl rfl (by kernel_rfl) (by kernel_rfl) (by kernel_rfl) (by kernel_rfl) (fun _ _ _ h => h) hS (Or.inl ⟨rfl, fun w2 hw1 => by have hw1 : w2 = U := hw1; subst hw1; go_simp⟩) ?_
                  simp only [Act.put, List.setIfInBounds_toArray, List.set_cons_zero, List.set_cons_succ]
                  refine wpAnyK_takeTo 5 (some 36) (.slice (some ⟨gl, 0, none⟩) n c) [7, 8, 9, 10, 11, 12, 13, 14, 15, 16, 17, 18, 19, 20, 21, 22, 23, 24, 25, 26, 27, 28, 29, 30, 31] rfl rfl (by kernel_rfl) (by kernel_rfl) (by kernel_rfl) (by kernel_rfl) (fun _ _ _ h => h) hS (Or.inl ⟨rfl, fun w2 hw1 => by have hw1 : w2 = U := hw1; subst hw1; go_simp⟩) ?_
                  simp only [Act.put, List.setIfInBounds_toArray, List.set_cons_zero, List.set_cons_succ]
                  refine wpAnyK_takeTo 6 (some 37) (.int .i64 (j : Int)) [7, 8, 9, 10, 11, 12, 13, 14, 15, 16, 17, 18, 19, 20, 21, 22, 23, 24, 25, 26, 27, 28, 29, 30, 31] rfl rfl (by kernel_rfl) (by kernel_rfl) (by kernel_rfl) (by kernel_rfl) (fun _ _ _ h => h) hS (Or.inl ⟨rfl, fun w2 hw1 => by have hw1 : w2 = U := hw1; subst hw1; go_simp⟩) ?_
                  simp only [Act.put, List.setIfInBounds_toArray, List.set_cons_zero, List.set_cons_succ]
                  refine wpAnyK_takeTo 7 (some 38) (.pointer (some ⟨gl, j * 3, none⟩)) [8, 9, 10, 11, 12, 13, 14, 15, 16, 17, 18, 19, 20, 21, 22, 23, 24, 25, 26, 27, 28, 29, 30, 31] rfl rfl (by kernel_rfl) (by kernel_rfl) (by kernel_rfl) (by kernel_rfl) (fun _ _ _ h => h) hS (Or.inl ⟨rfl, fun w2 hw1 => by have hw1 : w2 = U := hw1; subst hw1; go_simp⟩) ?_
                  simp only [Act.put, List.setIfInBounds_toArray, List.set_cons_zero, List.set_cons_succ]
                  refine wpAnyK_takeTo 8 (some 39) (.pointer (some ⟨gl, j * 3, none⟩)) [9, 10, 11, 12, 13, 14, 15, 16, 17, 18, 19, 20, 21, 22, 23, 24, 25, 26, 27, 28, 29, 30, 31] rfl rfl (by kernel_rfl) (by kernel_rfl) (by kernel_rfl) (by kernel_rfl) (fun _ _ _ h => h) hS (Or.inl ⟨rfl, fun w2 hw1 => by have hw1 : w2 = U := hw1; subst hw1; go_simp⟩) ?_
                  simp only [Act.put, List.setIfInBounds_toArray, List.set_cons_zero, List.set_cons_succ]
                  refine wpAnyK_takeTo 9 (some 40) (.int .i64 q.x) [10, 11, 12, 13, 14, 15, 16, 17, 18, 19, 20, 21, 22, 23, 24, 25, 26, 27, 28, 29, 30, 31] rfl rfl (by kernel_rfl) (by kernel_rfl) (by kernel_rfl) (by kernel_rfl) (fun _ _ _ h => h) hS (Or.inl ⟨rfl, fun w2 hw1 => by have hw1 : w2 = U := hw1; subst hw1; go_simp⟩) ?_
                  simp only [Act.put, List.setIfInBounds_toArray, List.set_cons_zero, List.set_cons_succ]
                  refine wpAnyK_takeTo 10 (some 41) (.bool false) [11, 12, 13, 14, 15, 16, 17, 18, 19, 20, 21, 22, 23, 24, 25, 26, 27, 28, 29, 30, 31] rfl rfl (by kernel_rfl) (by kernel_rfl) (by kernel_rfl) (by kernel_rfl) (fun _ _ _ h => h) hS (Or.inl ⟨rfl, fun w2 hw1 => by have hw1 : w2 = U := hw1; subst hw1; go_simp⟩) ?_
                  simp only [Act.put, List.setIfInBounds_toArray, List.set_cons_zero, List.set_cons_succ]
                  refine wpAnyK_takeTo 11 (some 42) (.bool false) [12, 13, 14, 15, 16, 17, 18, 19, 20, 21, 22, 23, 24, 25, 26, 27, 28, 29, 30, 31] rfl rfl (by kernel_rfl) (by kernel_rfl) (by kernel_rfl) (by kernel_rfl) (fun _ _ _ h => h) hS (Or.inl ⟨rfl, fun w2 hw1 => by have hw1 : w2 = U := hw1; subst hw1; go_simp⟩) ?_
                  simp only [Act.put, List.setIfInBounds_toArray, List.set_cons_zero, List.set_cons_succ]
                  refine wpAnyK_takeTo 12 (some 43) (.pointer (some ⟨g0, 0, none⟩)) [13, 19, 20, 21, 22, 23, 24, 25, 26, 27, 28, 29, 30, 31] rfl rfl (by kernel_rfl) (by kernel_rfl) (by kernel_rfl) (by kernel_rfl) (fun _ _ _ h => h) hS (Or.inl ⟨rfl, fun w2 hw1 => by have hw1 : w2 = U := hw1; subst hw1; go_simp⟩) ?_
                  simp only [Act.put, List.setIfInBounds_toArray, List.set_cons_zero, List.set_cons_succ]
                  refine wpAnyK_takeTo 13 (some 44) (.int .i64 p.x) [19, 20, 21, 22, 23, 24, 25, 26, 27, 28, 29, 30, 31] rfl rfl (by kernel_rfl) (by kernel_rfl) (by kernel_rfl) (by kernel_rfl) (fun _ _ _ h => h) hS (Or.inl ⟨rfl, fun w2 hw1 => by have hw1 : w2 = U := hw1; subst hw1; go_simp⟩) ?_
                  simp only [Act.put, List.setIfInBounds_toArray, List.set_cons_zero, List.set_cons_succ]
                  refine wpAnyK_takeTo 14 (some 45) (.slice (some ⟨gl, 0, none⟩) n c) [16, 17, 18, 19, 20, 21, 22, 23, 24, 25, 26, 27, 28, 29, 30, 31] rfl rfl (by kernel_rfl) (by kernel_rfl) (by kernel_rfl) (by kernel_rfl) (fun _ _ _ h => h) hS (Or.inl ⟨rfl, fun w2 hw1 => by have hw1 : w2 = U := hw1; subst hw1; go_simp⟩) ?_
                  simp only [Act.put, List.setIfInBounds_toArray, List.set_cons_zero, List.set_cons_succ]
                  refine wpAnyK_takeTo 15 (some 46) (.int .i64 (j : Int)) [16, 17, 18, 19, 20, 21, 22, 23, 24, 25, 26, 27, 28, 29, 30, 31] rfl rfl (by kernel_rfl) (by kernel_rfl) (by kernel_rfl) (by kernel_rfl) (fun _ _ _ h => h) hS (Or.inl ⟨rfl, fun w2 hw1 => by have hw1 : w2 = U := hw1; subst hw1; go_simp⟩) ?_
                  simp only [Act.put, List.setIfInBounds_toArray, List.set_cons_zero, List.set_cons_succ]
                  refine wpAnyK_takeTo 16 (some 47) (.pointer (some ⟨gl, j * 3, none⟩)) [17, 18, 19, 20, 21, 22, 23, 24, 25, 26, 27, 28, 29, 30, 31] rfl rfl (by kernel_rfl) (by kernel_rfl) (by kernel_rfl) (by kernel_rfl) (fun _ _ _ h => h) hS (Or.inl ⟨rfl, fun w2 hw1 => by have hw1 : w2 = U := hw1; subst hw1; go_simp⟩) ?_
                  simp only [Act.put, List.setIfInBounds_toArray, List.set_cons_zero, List.set_cons_succ]
                  refine wpAnyK_takeTo 17 (some 48) (.pointer (some ⟨gl, j * 3, none⟩)) [18, 19, 20, 21, 22, 23, 24, 25, 26, 27, 28, 29, 30, 31] rfl rfl (by kernel_rfl) (by kernel_rfl) (by kernel_rfl) (by kernel_rfl) (fun _ _ _ h => h) hS (Or.inl ⟨rfl, fun w2 hw1 => by have hw1 : w2 = U := hw1; subst hw1; go_simp⟩) ?_
                  simp only [Act.put, List.setIfInBounds_toArray, List.set_cons_zero, List.set_cons_succ]
                  refine wpAnyK_takeTo 18 (some 49) (.int .i64 q.x) [19, 20, 21, 22, 23, 24, 25, 26, 27, 28, 29, 30, 31] rfl rfl (by kernel_rfl) (by kernel_rfl) (by kernel_rfl) (by kernel_rfl) (fun _ _ _ h => h) hS (Or.inl ⟨rfl, fun w2 hw1 => by have hw1 : w2 = U := hw1; subst hw1; go_simp⟩) ?_
                  simp only [Act.put, List.setIfInBounds_toArray, List.set_cons_zero, List.set_cons_succ]
                  refine wpAnyK_takeTo 19 (some 50) (.bool true) [20, 21, 22, 23, 24, 25, 26, 27, 28, 29, 30, 31] rfl rfl (by kernel_rfl) (by kernel_rfl) (by kernel_rfl) (by kernel_rfl) (fun _ _ _ h => h) hS (Or.inl ⟨rfl, fun w2 hw1 => by have hw1 : w2 = U := hw1; subst hw1; go_simp⟩) ?_
                  simp only [Act.put, List.setIfInBounds_toArray, List.set_cons_zero, List.set_cons_succ]
                  refine wpAnyK_takeTo 20 (some 51) (.bool true) [21, 22, 23, 24, 25, 26, 27, 28, 29, 30, 31] rfl rfl (by kernel_rfl) (by kernel_rfl) (by kernel_rfl) (by kernel_rfl) (fun _ _ _ h => h) hS (Or.inl ⟨rfl, fun w2 hw1 => by have hw1 : w2 = U := hw1; subst hw1; go_simp⟩) ?_
                  simp only [Act.put, List.setIfInBounds_toArray, List.set_cons_zero, List.set_cons_succ]
                  refine wpAnyK_takeTo 21 (some 52) (.pointer (some ⟨g0, 2, none⟩)) [22, 28, 29, 30, 31] rfl rfl (by kernel_rfl) (by kernel_rfl) (by kernel_rfl) (by kernel_rfl) (fun _ _ _ h => h) hS (Or.inl ⟨rfl, fun w2 hw1 => by have hw1 : w2 = U := hw1; subst hw1; go_simp⟩) ?_
                  simp only [Act.put, List.setIfInBounds_toArray, List.set_cons_zero, List.set_cons_succ]
                  refine wpAnyK_takeTo 22 (some 53) (.int .i64 p.id) [28, 29, 30, 31] rfl rfl (by kernel_rfl) (by kernel_rfl) (by kernel_rfl) (by kernel_rfl) (fun _ _ _ h => h) hS (Or.inl ⟨rfl, fun w2 hw1 => by have hw1 : w2 = U := hw1; subst hw1; go_simp⟩) ?_
                  simp only [Act.put, List.setIfInBounds_toArray, List.set_cons_zero, List.set_cons_succ]
                  refine wpAnyK_takeTo 23 (some 54) (.slice (some ⟨gl, 0, none⟩) n c) [25, 26, 27, 28, 29, 30, 31] rfl rfl (by kernel_rfl) (by kernel_rfl) (by kernel_rfl) (by kernel_rfl) (fun _ _ _ h => h) hS (Or.inl ⟨rfl, fun w2 hw1 => by have hw1 : w2 = U := hw1; subst hw1; go_simp⟩) ?_
                  simp only [Act.put, List.setIfInBounds_toArray, List.set_cons_zero, List.set_cons_succ]
                  refine wpAnyK_takeTo 24 (some 55) (.int .i64 (j : Int)) [25, 26, 27, 28, 29, 30, 31] rfl rfl (by kernel_rfl) (by kernel_rfl) (by kernel_rfl) (by kernel_rfl) (fun _ _ _ h => h) hS (Or.inl ⟨rfl, fun w2 hw1 => by have hw1 : w2 = U := hw1; subst hw1; go_simp⟩) ?_
                  simp only [Act.put, List.setIfInBounds_toArray, List.set_cons_zero, List.set_cons_succ]
                  refine wpAnyK_takeTo 25 (some 56) (.pointer (some ⟨gl, j * 3, none⟩)) [26, 27, 28, 29, 30, 31] rfl rfl (by kernel_rfl) (by kernel_rfl) (by kernel_rfl) (by kernel_rfl) (fun _ _ _ h => h) hS (Or.inl ⟨rfl, fun w2 hw1 => by have hw1 : w2 = U := hw1; subst hw1; go_simp⟩) ?_
                  simp only [Act.put, List.setIfInBounds_toArray, List.set_cons_zero, List.set_cons_succ]
                  refine wpAnyK_takeTo 26 (some 57) (.pointer (some ⟨gl, j * 3 + 2, none⟩)) [27, 28, 29, 30, 31] rfl rfl (by kernel_rfl) (by kernel_rfl) (by kernel_rfl) (by kernel_rfl) (fun _ _ _ h => h) hS (Or.inl ⟨rfl, fun w2 hw1 => by have hw1 : w2 = U := hw1; subst hw1; go_simp⟩) ?_
                  simp only [Act.put, List.setIfInBounds_toArray, List.set_cons_zero, List.set_cons_succ]
                  refine wpAnyK_takeTo 27 (some 58) (.int .i64 q.id) [28, 29, 30, 31] rfl rfl (by kernel_rfl) (by kernel_rfl) (by kernel_rfl) (by kernel_rfl) (fun _ _ _ h => h) hS (Or.inl ⟨rfl, fun w2 hw1 => by have hw1 : w2 = U := hw1; subst hw1; go_simp⟩) ?_
                  simp only [Act.put, List.setIfInBounds_toArray, List.set_cons_zero, List.set_cons_succ]
                  refine wpAnyK_takeTo 28 (some 59) (.bool true) [29, 30, 31] rfl rfl (by kernel_rfl) (by kernel_rfl) (by kernel_rfl) (by kernel_rfl) (fun _ _ _ h => h) hS (Or.inl ⟨rfl, fun w2 hw1 => by have hw1 : w2 = U := hw1; subst hw1; go_simp⟩) ?_
                  simp only [Act.put, List.setIfInBounds_toArray, List.set_cons_zero, List.set_cons_succ]
                  refine wpAnyK_takeTo 29 (some 60) (.bool true) [30, 31] rfl rfl (by kernel_rfl) (by kernel_rfl) (by kernel_rfl) (by kernel_rfl) (fun _ _ _ h => h) hS (Or.inl ⟨rfl, fun w2 hw1 => by have hw1 : w2 = U := hw1; subst hw1; go_simp⟩) ?_
                  simp only [Act.put, List.setIfInBounds_toArray, List.set_cons_zero, List.set_cons_succ]
                  refine wpAnyK_takeTo 30 (some 61) (.bool true) [31] rfl rfl (by kernel_rfl) (by kernel_rfl) (by kernel_rfl) (by kernel_rfl) (fun _ _ _ h => h) hS (Or.inl ⟨rfl, fun w2 hw1 => by have hw1 : w2 = U := hw1; subst hw1; go_simp⟩) ?_
                  simp only [Act.put, List.setIfInBounds_toArray, List.set_cons_zero, List.set_cons_succ]
                  refine wpAnyK_takeTo 31 (some 62) (.bool true) [] rfl rfl (by kernel_rfl) (by kernel_rfl) (by kernel_rfl) (by kernel_rfl) (fun _ _ _ h => h) hS (Or.inl ⟨rfl, fun w2 hw1 => by have hw1 : w2 = U := hw1; subst hw1; go_simp⟩) ?_
                  simp only [Act.put, List.setIfInBounds_toArray, List.set_cons_zero, List.set_cons_succ]
                  refine wpAnyK_done (by kernel_rfl) ?_ _
                  obtain ⟨v', Z', hr, hg'⟩ := (show RowG Y _ M U from HG.out).push p 26 (by have h : M.length + 3 ≤ 2199023255552 := HLEN.out; omega)
                  obtain ⟨v2, Z2, hr2, hg2⟩ := hg'.push q 26 (by have h : M.length + 3 ≤ 2199023255552 := HLEN.out; simp; omega)
                  have HS2 : Hid (insS p (L.take (j + 1)) = (M ++ [p] ++ [q], true)) := hide (by rw [HS.out]; simp [stepI, hab])
                  obtain ⟨gl2, hgl2, f1, f2, f3⟩ := OwnR.at (OwnR.fr HL2.out hg'.2.1 (fun _ _ h => h)) HQ.out
                  cases hgl2
                  have HG2 := hide hg2
                  clear hg' hg2 hS
                  go_wp2_with (first | (refine wpList_plain rfl fun _ hK => wp_append_to (.tmp 63) (.tmp 65) 26 rfl _ rfl _ rfl _ (.slice (some ⟨U.heap.size, 0, none⟩) 1 1) rfl rfl _ _ hr (hK _ _ ?_); clear hK) | (refine wpList_plain rfl fun _ hK => wp_append_to (.tmp 67) (.tmp 72) 26 rfl _ rfl _ rfl _ (.slice (some ⟨Z'.heap.size, 0, none⟩) 1 1) rfl rfl _ _ hr2 (hK _ _ ?_); clear hK))
                  go_roundw
                  case rel => exact ⟨j + 1, by omega, by go_num, by rw [HS2.out], by rw [HS2.out]; exact HG2.out⟩
                  case measure => simp [intOf]; omega
                · have q3b : decide (p.id < q.id) = false := by simpa using q3
                  have hab : aheadB p q = false := by simp [aheadB, q1, q3] <;> omega
                  clear q2
                  refine wpAnyK_takeTo 0 (some 31) (.bool false) [1, 2, 3, 4, 5, 6, 7, 8, 9, 10, 11, 12, 13, 14, 15, 16, 17, 18, 19, 20, 21, 22, 23, 24, 25, 26, 27, 28, 29, 30, 31] rfl rfl (by kernel_rfl) (by kernel_rfl) (by kernel_rfl) (by kernel_rfl) (fun _ _ _ h => h) hS (Or.inl ⟨rfl, fun w2 hw1 => by have hw1 : w2 = U := hw1; subst hw1; go_simp⟩) ?_
                  simp only [Act.put, List.setIfInBounds_toArray, List.set_cons_zero, List.set_cons_succ]
                  refine wpAnyK_takeTo 1 (some 32) (.bool true) [2, 3, 4, 5, 6, 7, 8, 9, 10, 11, 12, 13, 14, 15, 16, 17, 18, 19, 20, 21, 22, 23, 24, 25, 26, 27, 28, 29, 30, 31] rfl rfl (by kernel_rfl) (by kernel_rfl) (by kernel_rfl) (by kernel_rfl) (fun _ _ _ h => h) hS (Or.inl ⟨rfl, fun w2 hw1 => by have hw1 : w2 = U := hw1; subst hw1; go_simp⟩) ?_
                  simp only [Act.put, List.setIfInBounds_toArray, List.set_cons_zero, List.set_cons_succ]
                  refine wpAnyK_takeTo 2 (some 33) (.bool true) [3, 4, 5, 6, 7, 8, 9, 10, 11, 12, 13, 14, 15, 16, 17, 18, 19, 20, 21, 22, 23, 24, 25, 26, 27, 28, 29, 30, 31] rfl rfl (by kernel_rfl) (by kernel_rfl) (by kernel_rfl) (by kernel_rfl) (fun _ _ _ h => h) hS (Or.inl ⟨rfl, fun w2 hw1 => by have hw1 : w2 = U := hw1; subst hw1; go_simp⟩) ?_
                  simp only [Act.put, List.setIfInBounds_toArray, List.set_cons_zero, List.set_cons_succ]
                  refine wpAnyK_takeTo 3 (some 34) (.pointer (some ⟨g0, 0, none⟩)) [4, 10, 11, 12, 13, 14, 15, 16, 17, 18, 19, 20, 21, 22, 23, 24, 25, 26, 27, 28, 29, 30, 31] rfl rfl (by kernel_rfl) (by kernel_rfl) (by kernel_rfl) (by kernel_rfl) (fun _ _ _ h => h) hS (Or.inl ⟨rfl, fun w2 hw1 => by have hw1 : w2 = U := hw1; subst hw1; go_simp⟩) ?_
                  simp only [Act.put, List.setIfInBounds_toArray, List.set_cons_zero, List.set_cons_succ]
                  refine wpAnyK_takeTo 4 (some 35) (.int .i64 p.x) [10, 11, 12, 13, 14, 15, 16, 17, 18, 19, 20, 21, 22, 23, 24, 25, 26, 27, 28, 29, 30, 31] rfl rfl (by kernel_rfl) (by kernel_rfl) (by kernel_rfl) (by kernel_rfl) (fun _ _ _ h => h) hS (Or.inl ⟨rfl, fun w2 hw1 => by have hw1 : w2 = U := hw1; subst hw1; go_simp⟩) ?_
                  simp only [Act.put, List.setIfInBounds_toArray, List.set_cons_zero, List.set_cons_succ]
                  refine wpAnyK_takeTo 5 (some 36) (.slice (some ⟨gl, 0, none⟩) n c) [7, 8, 9, 10, 11, 12, 13, 14, 15, 16, 17, 18, 19, 20, 21, 22, 23, 24, 25, 26, 27, 28, 29, 30, 31] rfl rfl (by kernel_rfl) (by kernel_rfl) (by kernel_rfl) (by kernel_rfl) (fun _ _ _ h => h) hS (Or.inl ⟨rfl, fun w2 hw1 => by have hw1 : w2 = U := hw1; subst hw1; go_simp⟩) ?_
                  simp only [Act.put, List.setIfInBounds_toArray, List.set_cons_zero, List.set_cons_succ]
                  refine wpAnyK_takeTo 6 (some 37) (.int .i64 (j : Int)) [7, 8, 9, 10, 11, 12, 13, 14, 15, 16, 17, 18, 19, 20, 21, 22, 23, 24, 25, 26, 27, 28, 29, 30, 31] rfl rfl (by kernel_rfl) (by kernel_rfl) (by kernel_rfl) (by kernel_rfl) (fun _ _ _ h => h) hS (Or.inl ⟨rfl, fun w2 hw1 => by have hw1 : w2 = U := hw1; subst hw1; go_simp⟩) ?_
                  simp only [Act.put, List.setIfInBounds_toArray, List.set_cons_zero, List.set_cons_succ]
                  refine wpAnyK_takeTo 7 (some 38) (.pointer (some ⟨gl, j * 3, none⟩)) [8, 9, 10, 11, 12, 13, 14, 15, 16, 17, 18, 19, 20, 21, 22, 23, 24, 25, 26, 27, 28, 29, 30, 31] rfl rfl (by kernel_rfl) (by kernel_rfl) (by kernel_rfl) (by kernel_rfl) (fun _ _ _ h => h) hS (Or.inl ⟨rfl, fun w2 hw1 => by have hw1 : w2 = U := hw1; subst hw1; go_simp⟩) ?_
                  simp only [Act.put, List.setIfInBounds_toArray, List.set_cons_zero, List.set_cons_succ]
                  refine wpAnyK_takeTo 8 (some 39) (.pointer (some ⟨gl, j * 3, none⟩)) [9, 10, 11, 12, 13, 14, 15, 16, 17, 18, 19, 20, 21, 22, 23, 24, 25, 26, 27, 28, 29, 30, 31] rfl rfl (by kernel_rfl) (by kernel_rfl) (by kernel_rfl) (by kernel_rfl) (fun _ _ _ h => h) hS (Or.inl ⟨rfl, fun w2 hw1 => by have hw1 : w2 = U := hw1; subst hw1; go_simp⟩) ?_
                  simp only [Act.put, List.setIfInBounds_toArray, List.set_cons_zero, List.set_cons_succ]
                  refine wpAnyK_takeTo 9 (some 40) (.int .i64 q.x) [10, 11, 12, 13, 14, 15, 16, 17, 18, 19, 20, 21, 22, 23, 24, 25, 26, 27, 28, 29, 30, 31] rfl rfl (by kernel_rfl) (by kernel_rfl) (by kernel_rfl) (by kernel_rfl) (fun _ _ _ h => h) hS (Or.inl ⟨rfl, fun w2 hw1 => by have hw1 : w2 = U := hw1; subst hw1; go_simp⟩) ?_
                  simp only [Act.put, List.setIfInBounds_toArray, List.set_cons_zero, List.set_cons_succ]
                  refine wpAnyK_takeTo 10 (some 41) (.bool false) [11, 12, 13, 14, 15, 16, 17, 18, 19, 20, 21, 22, 23, 24, 25, 26, 27, 28, 29, 30, 31] rfl rfl (by kernel_rfl) (by kernel_rfl) (by kernel_rfl) (by kernel_rfl) (fun _ _ _ h => h) hS (Or.inl ⟨rfl, fun w2 hw1 => by have hw1 : w2 = U := hw1; subst hw1; go_simp⟩) ?_
                  simp only [Act.put, List.setIfInBounds_toArray, List.set_cons_zero, List.set_cons_succ]
                  refine wpAnyK_takeTo 11 (some 42) (.bool false) [12, 13, 14, 15, 16, 17, 18, 19, 20, 21, 22, 23, 24, 25, 26, 27, 28, 29, 30, 31] rfl rfl (by kernel_rfl) (by kernel_rfl) (by kernel_rfl) (by kernel_rfl) (fun _ _ _ h => h) hS (Or.inl ⟨rfl, fun w2 hw1 => by have hw1 : w2 = U := hw1; subst hw1; go_simp⟩) ?_
                  simp only [Act.put, List.setIfInBounds_toArray, List.set_cons_zero, List.set_cons_succ]
                  refine wpAnyK_takeTo 12 (some 43) (.pointer (some ⟨g0, 0, none⟩)) [13, 19, 20, 21, 22, 23, 24, 25, 26, 27, 28, 29, 30, 31] rfl rfl (by kernel_rfl) (by kernel_rfl) (by kernel_rfl) (by kernel_rfl) (fun _ _ _ h => h) hS (Or.inl ⟨rfl, fun w2 hw1 => by have hw1 : w2 = U := hw1; subst hw1; go_simp⟩) ?_
                  simp only [Act.put, List.setIfInBounds_toArray, List.set_cons_zero, List.set_cons_succ]
                  refine wpAnyK_takeTo 13 (some 44) (.int .i64 p.x) [19, 20, 21, 22, 23, 24, 25, 26, 27, 28, 29, 30, 31] rfl rfl (by kernel_rfl) (by kernel_rfl) (by kernel_rfl) (by kernel_rfl) (fun _ _ _ h => h) hS (Or.inl ⟨rfl, fun w2 hw1 => by have hw1 : w2 = U := hw1; subst hw1; go_simp⟩) ?_
                  simp only [Act.put, List.setIfInBounds_toArray, List.set_cons_zero, List.set_cons_succ]
                  refine wpAnyK_takeTo 14 (some 45) (.slice (some ⟨gl, 0, none⟩) n c) [16, 17, 18, 19, 20, 21, 22, 23, 24, 25, 26, 27, 28, 29, 30, 31] rfl rfl (by kernel_rfl) (by kernel_rfl) (by kernel_rfl) (by kernel_rfl) (fun _ _ _ h => h) hS (Or.inl ⟨rfl, fun w2 hw1 => by have hw1 : w2 = U := hw1; subst hw1; go_simp⟩) ?_
                  simp only [Act.put, List.setIfInBounds_toArray, List.set_cons_zero, List.set_cons_succ]
                  refine wpAnyK_takeTo 15 (some 46) (.int .i64 (j : Int)) [16, 17, 18, 19, 20, 21, 22, 23, 24, 25, 26, 27, 28, 29, 30, 31] rfl rfl (by kernel_rfl) (by kernel_rfl) (by kernel_rfl) (by kernel_rfl) (fun _ _ _ h => h) hS (Or.inl ⟨rfl, fun w2 hw1 => by have hw1 : w2 = U := hw1; subst hw1; go_simp⟩) ?_
                  simp only [Act.put, List.setIfInBounds_toArray, List.set_cons_zero, List.set_cons_succ]
                  refine wpAnyK_takeTo 16 (some 47) (.pointer (some ⟨gl, j * 3, none⟩)) [17, 18, 19, 20, 21, 22, 23, 24, 25, 26, 27, 28, 29, 30, 31] rfl rfl (by kernel_rfl) (by kernel_rfl) (by kernel_rfl) (by kernel_rfl) (fun _ _ _ h => h) hS (Or.inl ⟨rfl, fun w2 hw1 => by have hw1 : w2 = U := hw1; subst hw1; go_simp⟩) ?_
                  simp only [Act.put, List.setIfInBounds_toArray, List.set_cons_zero, List.set_cons_succ]
                  refine wpAnyK_takeTo 17 (some 48) (.pointer (some ⟨gl, j * 3, none⟩)) [18, 19, 20, 21, 22, 23, 24, 25, 26, 27, 28, 29, 30, 31] rfl rfl (by kernel_rfl) (by kernel_rfl) (by kernel_rfl) (by kernel_rfl) (fun _ _ _ h => h) hS (Or.inl ⟨rfl, fun w2 hw1 => by have hw1 : w2 = U := hw1; subst hw1; go_simp⟩) ?_
                  simp only [Act.put, List.setIfInBounds_toArray, List.set_cons_zero, List.set_cons_succ]
                  refine wpAnyK_takeTo 18 (some 49) (.int .i64 q.x) [19, 20, 21, 22, 23, 24, 25, 26, 27, 28, 29, 30, 31] rfl rfl (by kernel_rfl) (by kernel_rfl) (by kernel_rfl) (by kernel_rfl) (fun _ _ _ h => h) hS (Or.inl ⟨rfl, fun w2 hw1 => by have hw1 : w2 = U := hw1; subst hw1; go_simp⟩) ?_
                  simp only [Act.put, List.setIfInBounds_toArray, List.set_cons_zero, List.set_cons_succ]
                  refine wpAnyK_takeTo 19 (some 50) (.bool true) [20, 21, 22, 23, 24, 25, 26, 27, 28, 29, 30, 31] rfl rfl (by kernel_rfl) (by kernel_rfl) (by kernel_rfl) (by kernel_rfl) (fun _ _ _ h => h) hS (Or.inl ⟨rfl, fun w2 hw1 => by have hw1 : w2 = U := hw1; subst hw1; go_simp⟩) ?_
                  simp only [Act.put, List.setIfInBounds_toArray, List.set_cons_zero, List.set_cons_succ]
                  refine wpAnyK_takeTo 20 (some 51) (.bool true) [21, 22, 23, 24, 25, 26, 27, 28, 29, 30, 31] rfl rfl (by kernel_rfl) (by kernel_rfl) (by kernel_rfl) (by kernel_rfl) (fun _ _ _ h => h) hS (Or.inl ⟨rfl, fun w2 hw1 => by have hw1 : w2 = U := hw1; subst hw1; go_simp⟩) ?_
                  simp only [Act.put, List.setIfInBounds_toArray, List.set_cons_zero, List.set_cons_succ]
                  refine wpAnyK_takeTo 21 (some 52) (.pointer (some ⟨g0, 2, none⟩)) [22, 28, 29, 30, 31] rfl rfl (by kernel_rfl) (by kernel_rfl) (by kernel_rfl) (by kernel_rfl) (fun _ _ _ h => h) hS (Or.inl ⟨rfl, fun w2 hw1 => by have hw1 : w2 = U := hw1; subst hw1; go_simp⟩) ?_
                  simp only [Act.put, List.setIfInBounds_toArray, List.set_cons_zero, List.set_cons_succ]
                  refine wpAnyK_takeTo 22 (some 53) (.int .i64 p.id) [28, 29, 30, 31] rfl rfl (by kernel_rfl) (by kernel_rfl) (by kernel_rfl) (by kernel_rfl) (fun _ _ _ h => h) hS (Or.inl ⟨rfl, fun w2 hw1 => by have hw1 : w2 = U := hw1; subst hw1; go_simp⟩) ?_
                  simp only [Act.put, List.setIfInBounds_toArray, List.set_cons_zero, List.set_cons_succ]
                  refine wpAnyK_takeTo 23 (some 54) (.slice (some ⟨gl, 0, none⟩) n c) [25, 26, 27, 28, 29, 30, 31] rfl rfl (by kernel_rfl) (by kernel_rfl) (by kernel_rfl) (by kernel_rfl) (fun _ _ _ h => h) hS (Or.inl ⟨rfl, fun w2 hw1 => by have hw1 : w2 = U := hw1; subst hw1; go_simp⟩) ?_
                  simp only [Act.put, List.setIfInBounds_toArray, List.set_cons_zero, List.set_cons_succ]
                  refine wpAnyK_takeTo 24 (some 55) (.int .i64 (j : Int)) [25, 26, 27, 28, 29, 30, 31] rfl rfl (by kernel_rfl) (by kernel_rfl) (by kernel_rfl) (by kernel_rfl) (fun _ _ _ h => h) hS (Or.inl ⟨rfl, fun w2 hw1 => by have hw1 : w2 = U := hw1; subst hw1; go_simp⟩) ?_
                  simp only [Act.put, List.setIfInBounds_toArray, List.set_cons_zero, List.set_cons_succ]
                  refine wpAnyK_takeTo 25 (some 56) (.pointer (some ⟨gl, j * 3, none⟩)) [26, 27, 28, 29, 30, 31] rfl rfl (by kernel_rfl) (by kernel_rfl) (by kernel_rfl) (by kernel_rfl) (fun _ _ _ h => h) hS (Or.inl ⟨rfl, fun w2 hw1 => by have hw1 : w2 = U := hw1; subst hw1; go_simp⟩) ?_
                  simp only [Act.put, List.setIfInBounds_toArray, List.set_cons_zero, List.set_cons_succ]
                  refine wpAnyK_takeTo 26 (some 57) (.pointer (some ⟨gl, j * 3 + 2, none⟩)) [27, 28, 29, 30, 31] rfl rfl (by kernel_rfl) (by kernel_rfl) (by kernel_rfl) (by kernel_rfl) (fun _ _ _ h => h) hS (Or.inl ⟨rfl, fun w2 hw1 => by have hw1 : w2 = U := hw1; subst hw1; go_simp⟩) ?_
                  simp only [Act.put, List.setIfInBounds_toArray, List.set_cons_zero, List.set_cons_succ]
                  refine wpAnyK_takeTo 27 (some 58) (.int .i64 q.id) [28, 29, 30, 31] rfl rfl (by kernel_rfl) (by kernel_rfl) (by kernel_rfl) (by kernel_rfl) (fun _ _ _ h => h) hS (Or.inl ⟨rfl, fun w2 hw1 => by have hw1 : w2 = U := hw1; subst hw1; go_simp⟩) ?_
                  simp only [Act.put, List.setIfInBounds_toArray, List.set_cons_zero, List.set_cons_succ]
                  refine wpAnyK_takeTo 28 (some 59) (.bool false) [29, 30, 31] rfl rfl (by kernel_rfl) (by kernel_rfl) (by kernel_rfl) (by kernel_rfl) (fun _ _ _ h => h) hS (Or.inl ⟨rfl, fun w2 hw1 => by have hw1 : w2 = U := hw1; subst hw1; go_simp⟩) ?_
                  simp only [Act.put, List.setIfInBounds_toArray, List.set_cons_zero, List.set_cons_succ]
                  refine wpAnyK_takeTo 29 (some 60) (.bool false) [30, 31] rfl rfl (by kernel_rfl) (by kernel_rfl) (by kernel_rfl) (by kernel_rfl) (fun _ _ _ h => h) hS (Or.inl ⟨rfl, fun w2 hw1 => by have hw1 : w2 = U := hw1; subst hw1; go_simp⟩) ?_
                  simp only [Act.put, List.setIfInBounds_toArray, List.set_cons_zero, List.set_cons_succ]
                  refine wpAnyK_takeTo 30 (some 61) (.bool false) [31] rfl rfl (by kernel_rfl) (by kernel_rfl) (by kernel_rfl) (by kernel_rfl) (fun _ _ _ h => h) hS (Or.inl ⟨rfl, fun w2 hw1 => by have hw1 : w2 = U := hw1; subst hw1; go_simp⟩) ?_
                  simp only [Act.put, List.setIfInBounds_toArray, List.set_cons_zero, List.set_cons_succ]
                  refine wpAnyK_takeTo 31 (some 62) (.bool false) [] rfl rfl (by kernel_rfl) (by kernel_rfl) (by kernel_rfl) (by kernel_rfl) (fun _ _ _ h => h) hS (Or.inl ⟨rfl, fun w2 hw1 => by have hw1 : w2 = U := hw1; subst hw1; go_simp⟩) ?_
                  simp only [Act.put, List.setIfInBounds_toArray, List.set_cons_zero, List.set_cons_succ]
                  refine wpAnyK_done (by kernel_rfl) ?_ _
                  obtain ⟨v', Z', hr, hg'⟩ := (show RowG Y _ M U from HG.out).push q 26 (by have h : M.length + 3 ≤ 2199023255552 := HLEN.out; omega)
                  have HS2 : Hid (insS p (L.take (j + 1)) = (M ++ [q], false)) := hide (by rw [HS.out]; simp [stepI, hab])
                  have HG' := hide hg'
                  clear hg' hS k1 k2 k3
                  go_wp2_with (refine wpList_plain rfl fun _ hK => wp_append_to (.tmp 67) (.tmp 72) 26 rfl _ rfl _ rfl _ (.slice (some ⟨U.heap.size, 0, none⟩) 1 1) rfl rfl _ _ hr (hK _ _ ?_); clear hK)
                  go_roundw
                  case rel => exact ⟨j + 1, by omega, by go_num, by rw [HS2.out], by rw [HS2.out]; exact HG'.out⟩
                  case measure => simp [intOf]; omega
              · have q2b : (p.x == q.x) = false := by simp [q2]
                have hab : aheadB p q = false := by simp [aheadB, q1, q2] <;> omega
                refine wpAnyK_takeTo 0 (some 31) (.bool false) [1, 2, 3, 4, 5, 6, 7, 8, 9, 10, 11, 12, 13, 14, 15, 16, 17, 18, 19, 20, 21, 22, 23, 24, 25, 26, 27, 28, 29, 30, 31] rfl rfl (by kernel_rfl) (by kernel_rfl) (by kernel_rfl) (by kernel_rfl) (fun _ _ _ h => h) hS (Or.inl ⟨rfl, fun w2 hw1 => by have hw1 : w2 = U := hw1; subst hw1; go_simp⟩) ?_
                simp only [Act.put, List.setIfInBounds_toArray, List.set_cons_zero, List.set_cons_succ]
                refine wpAnyK_takeTo 1 (some 32) (.bool true) [2, 3, 4, 5, 6, 7, 8, 9, 10, 11, 12, 13, 14, 15, 16, 17, 18, 19, 20, 21, 22, 23, 24, 25, 26, 27, 28, 29, 30, 31] rfl rfl (by kernel_rfl) (by kernel_rfl) (by kernel_rfl) (by kernel_rfl) (fun _ _ _ h => h) hS (Or.inl ⟨rfl, fun w2 hw1 => by have hw1 : w2 = U := hw1; subst hw1; go_simp⟩) ?_
                simp only [Act.put, List.setIfInBounds_toArray, List.set_cons_zero, List.set_cons_succ]
                refine wpAnyK_takeTo 2 (some 33) (.bool true) [3, 4, 5, 6, 7, 8, 9, 10, 11, 12, 13, 14, 15, 16, 17, 18, 19, 20, 21, 22, 23, 24, 25, 26, 27, 28, 29, 30, 31] rfl rfl (by kernel_rfl) (by kernel_rfl) (by kernel_rfl) (by kernel_rfl) (fun _ _ _ h => h) hS (Or.inl ⟨rfl, fun w2 hw1 => by have hw1 : w2 = U := hw1; subst hw1; go_simp⟩) ?_
                simp only [Act.put, List.setIfInBounds_toArray, List.set_cons_zero, List.set_cons_succ]
                refine wpAnyK_takeTo 3 (some 34) (.pointer (some ⟨g0, 0, none⟩)) [4, 10, 11, 12, 13, 14, 15, 16, 17, 18, 19, 20, 21, 22, 23, 24, 25, 26, 27, 28, 29, 30, 31] rfl rfl (by kernel_rfl) (by kernel_rfl) (by kernel_rfl) (by kernel_rfl) (fun _ _ _ h => h) hS (Or.inl ⟨rfl, fun w2 hw1 => by have hw1 : w2 = U := hw1; subst hw1; go_simp⟩) ?_
                simp only [Act.put, List.setIfInBounds_toArray, List.set_cons_zero, List.set_cons_succ]
                refine wpAnyK_takeTo 4 (some 35) (.int .i64 p.x) [10, 11, 12, 13, 14, 15, 16, 17, 18, 19, 20, 21, 22, 23, 24, 25, 26, 27, 28, 29, 30, 31] rfl rfl (by kernel_rfl) (by kernel_rfl) (by kernel_rfl) (by kernel_rfl) (fun _ _ _ h => h) hS (Or.inl ⟨rfl, fun w2 hw1 => by have hw1 : w2 = U := hw1; subst hw1; go_simp⟩) ?_
                simp only [Act.put, List.setIfInBounds_toArray, List.set_cons_zero, List.set_cons_succ]
                refine wpAnyK_takeTo 5 (some 36) (.slice (some ⟨gl, 0, none⟩) n c) [7, 8, 9, 10, 11, 12, 13, 14, 15, 16, 17, 18, 19, 20, 21, 22, 23, 24, 25, 26, 27, 28, 29, 30, 31] rfl rfl (by kernel_rfl) (by kernel_rfl) (by kernel_rfl) (by kernel_rfl) (fun _ _ _ h => h) hS (Or.inl ⟨rfl, fun w2 hw1 => by have hw1 : w2 = U := hw1; subst hw1; go_simp⟩) ?_
                simp only [Act.put, List.setIfInBounds_toArray, List.set_cons_zero, List.set_cons_succ]
                refine wpAnyK_takeTo 6 (some 37) (.int .i64 (j : Int)) [7, 8, 9, 10, 11, 12, 13, 14, 15, 16, 17, 18, 19, 20, 21, 22, 23, 24, 25, 26, 27, 28, 29, 30, 31] rfl rfl (by kernel_rfl) (by kernel_rfl) (by kernel_rfl) (by kernel_rfl) (fun _ _ _ h => h) hS (Or.inl ⟨rfl, fun w2 hw1 => by have hw1 : w2 = U := hw1; subst hw1; go_simp⟩) ?_
                simp only [Act.put, List.setIfInBounds_toArray, List.set_cons_zero, List.set_cons_succ]
                refine wpAnyK_takeTo 7 (some 38) (.pointer (some ⟨gl, j * 3, none⟩)) [8, 9, 10, 11, 12, 13, 14, 15, 16, 17, 18, 19, 20, 21, 22, 23, 24, 25, 26, 27, 28, 29, 30, 31] rfl rfl (by kernel_rfl) (by kernel_rfl) (by kernel_rfl) (by kernel_rfl) (fun _ _ _ h => h) hS (Or.inl ⟨rfl, fun w2 hw1 => by have hw1 : w2 = U := hw1; subst hw1; go_simp⟩) ?_
                simp only [Act.put, List.setIfInBounds_toArray, List.set_cons_zero, List.set_cons_succ]
                refine wpAnyK_takeTo 8 (some 39) (.pointer (some ⟨gl, j * 3, none⟩)) [9, 10, 11, 12, 13, 14, 15, 16, 17, 18, 19, 20, 21, 22, 23, 24, 25, 26, 27, 28, 29, 30, 31] rfl rfl (by kernel_rfl) (by kernel_rfl) (by kernel_rfl) (by kernel_rfl) (fun _ _ _ h => h) hS (Or.inl ⟨rfl, fun w2 hw1 => by have hw1 : w2 = U := hw1; subst hw1; go_simp⟩) ?_
                simp only [Act.put, List.setIfInBounds_toArray, List.set_cons_zero, List.set_cons_succ]
                refine wpAnyK_takeTo 9 (some 40) (.int .i64 q.x) [10, 11, 12, 13, 14, 15, 16, 17, 18, 19, 20, 21, 22, 23, 24, 25, 26, 27, 28, 29, 30, 31] rfl rfl (by kernel_rfl) (by kernel_rfl) (by kernel_rfl) (by kernel_rfl) (fun _ _ _ h => h) hS (Or.inl ⟨rfl, fun w2 hw1 => by have hw1 : w2 = U := hw1; subst hw1; go_simp⟩) ?_
                simp only [Act.put, List.setIfInBounds_toArray, List.set_cons_zero, List.set_cons_succ]
                refine wpAnyK_takeTo 10 (some 41) (.bool false) [11, 12, 13, 14, 15, 16, 17, 18, 19, 20, 21, 22, 23, 24, 25, 26, 27, 28, 29, 30, 31] rfl rfl (by kernel_rfl) (by kernel_rfl) (by kernel_rfl) (by kernel_rfl) (fun _ _ _ h => h) hS (Or.inl ⟨rfl, fun w2 hw1 => by have hw1 : w2 = U := hw1; subst hw1; go_simp⟩) ?_
                simp only [Act.put, List.setIfInBounds_toArray, List.set_cons_zero, List.set_cons_succ]
                refine wpAnyK_takeTo 11 (some 42) (.bool false) [12, 13, 14, 15, 16, 17, 18, 19, 20, 21, 22, 23, 24, 25, 26, 27, 28, 29, 30, 31] rfl rfl (by kernel_rfl) (by kernel_rfl) (by kernel_rfl) (by kernel_rfl) (fun _ _ _ h => h) hS (Or.inl ⟨rfl, fun w2 hw1 => by have hw1 : w2 = U := hw1; subst hw1; go_simp⟩) ?_
                simp only [Act.put, List.setIfInBounds_toArray, List.set_cons_zero, List.set_cons_succ]
                refine wpAnyK_takeTo 12 (some 43) (.pointer (some ⟨g0, 0, none⟩)) [13, 19, 20, 21, 22, 23, 24, 25, 26, 27, 28, 29, 30, 31] rfl rfl (by kernel_rfl) (by kernel_rfl) (by kernel_rfl) (by kernel_rfl) (fun _ _ _ h => h) hS (Or.inl ⟨rfl, fun w2 hw1 => by have hw1 : w2 = U := hw1; subst hw1; go_simp⟩) ?_
                simp only [Act.put, List.setIfInBounds_toArray, List.set_cons_zero, List.set_cons_succ]
                refine wpAnyK_takeTo 13 (some 44) (.int .i64 p.x) [19, 20, 21, 22, 23, 24, 25, 26, 27, 28, 29, 30, 31] rfl rfl (by kernel_rfl) (by kernel_rfl) (by kernel_rfl) (by kernel_rfl) (fun _ _ _ h => h) hS (Or.inl ⟨rfl, fun w2 hw1 => by have hw1 : w2 = U := hw1; subst hw1; go_simp⟩) ?_
                simp only [Act.put, List.setIfInBounds_toArray, List.set_cons_zero, List.set_cons_succ]
                refine wpAnyK_takeTo 14 (some 45) (.slice (some ⟨gl, 0, none⟩) n c) [16, 17, 18, 19, 20, 21, 22, 23, 24, 25, 26, 27, 28, 29, 30, 31] rfl rfl (by kernel_rfl) (by kernel_rfl) (by kernel_rfl) (by kernel_rfl) (fun _ _ _ h => h) hS (Or.inl ⟨rfl, fun w2 hw1 => by have hw1 : w2 = U := hw1; subst hw1; go_simp⟩) ?_
                simp only [Act.put, List.setIfInBounds_toArray, List.set_cons_zero, List.set_cons_succ]
                refine wpAnyK_takeTo 15 (some 46) (.int .i64 (j : Int)) [16, 17, 18, 19, 20, 21, 22, 23, 24, 25, 26, 27, 28, 29, 30, 31] rfl rfl (by kernel_rfl) (by kernel_rfl) (by kernel_rfl) (by kernel_rfl) (fun _ _ _ h => h) hS (Or.inl ⟨rfl, fun w2 hw1 => by have hw1 : w2 = U := hw1; subst hw1; go_simp⟩) ?_
                simp only [Act.put, List.setIfInBounds_toArray, List.set_cons_zero, List.set_cons_succ]
                refine wpAnyK_takeTo 16 (some 47) (.pointer (some ⟨gl, j * 3, none⟩)) [17, 18, 19, 20, 21, 22, 23, 24, 25, 26, 27, 28, 29, 30, 31] rfl rfl (by kernel_rfl) (by kernel_rfl) (by kernel_rfl) (by kernel_rfl) (fun _ _ _ h => h) hS (Or.inl ⟨rfl, fun w2 hw1 => by have hw1 : w2 = U := hw1; subst hw1; go_simp⟩) ?_
                simp only [Act.put, List.setIfInBounds_toArray, List.set_cons_zero, List.set_cons_succ]
                refine wpAnyK_takeTo 17 (some 48) (.pointer (some ⟨gl, j * 3, none⟩)) [18, 19, 20, 21, 22, 23, 24, 25, 26, 27, 28, 29, 30, 31] rfl rfl (by kernel_rfl) (by kernel_rfl) (by kernel_rfl) (by kernel_rfl) (fun _ _ _ h => h) hS (Or.inl ⟨rfl, fun w2 hw1 => by have hw1 : w2 = U := hw1; subst hw1; go_simp⟩) ?_
                simp only [Act.put, List.setIfInBounds_toArray, List.set_cons_zero, List.set_cons_succ]
                refine wpAnyK_takeTo 18 (some 49) (.int .i64 q.x) [19, 20, 21, 22, 23, 24, 25, 26, 27, 28, 29, 30, 31] rfl rfl (by kernel_rfl) (by kernel_rfl) (by kernel_rfl) (by kernel_rfl) (fun _ _ _ h => h) hS (Or.inl ⟨rfl, fun w2 hw1 => by have hw1 : w2 = U := hw1; subst hw1; go_simp⟩) ?_
                simp only [Act.put, List.setIfInBounds_toArray, List.set_cons_zero, List.set_cons_succ]
                refine wpAnyK_takeTo 19 (some 50) (.bool false) [20, 21, 22, 23, 24, 25, 26, 27, 28, 29, 30, 31] rfl rfl (by kernel_rfl) (by kernel_rfl) (by kernel_rfl) (by kernel_rfl) (fun _ _ _ h => h) hS (Or.inl ⟨rfl, fun w2 hw1 => by have hw1 : w2 = U := hw1; subst hw1; go_simp⟩) ?_
                simp only [Act.put, List.setIfInBounds_toArray, List.set_cons_zero, List.set_cons_succ]
                refine wpAnyK_takeTo 20 (some 51) (.bool false) [21, 22, 23, 24, 25, 26, 27, 28, 29, 30, 31] rfl rfl (by kernel_rfl) (by kernel_rfl) (by kernel_rfl) (by kernel_rfl) (fun _ _ _ h => h) hS (Or.inl ⟨rfl, fun w2 hw1 => by have hw1 : w2 = U := hw1; subst hw1; go_simp⟩) ?_
                simp only [Act.put, List.setIfInBounds_toArray, List.set_cons_zero, List.set_cons_succ]
                refine wpAnyK_takeTo 21 (some 52) (undef) [22, 28, 29, 30, 31] rfl rfl (by kernel_rfl) (by kernel_rfl) (by kernel_rfl) (by kernel_rfl) (fun _ _ _ h => h) hS (Or.inr ⟨rfl, rfl⟩) ?_
                simp only [Act.put, List.setIfInBounds_toArray, List.set_cons_zero, List.set_cons_succ]
                refine wpAnyK_takeTo 22 (some 53) (undef) [28, 29, 30, 31] rfl rfl (by kernel_rfl) (by kernel_rfl) (by kernel_rfl) (by kernel_rfl) (fun _ _ _ h => h) hS (Or.inr ⟨rfl, rfl⟩) ?_
                simp only [Act.put, List.setIfInBounds_toArray, List.set_cons_zero, List.set_cons_succ]
                refine wpAnyK_takeTo 23 (some 54) (undef) [25, 26, 27, 28, 29, 30, 31] rfl rfl (by kernel_rfl) (by kernel_rfl) (by kernel_rfl) (by kernel_rfl) (fun _ _ _ h => h) hS (Or.inr ⟨rfl, rfl⟩) ?_
                simp only [Act.put, List.setIfInBounds_toArray, List.set_cons_zero, List.set_cons_succ]
                refine wpAnyK_takeTo 24 (some 55) (undef) [25, 26, 27, 28, 29, 30, 31] rfl rfl (by kernel_rfl) (by kernel_rfl) (by kernel_rfl) (by kernel_rfl) (fun _ _ _ h => h) hS (Or.inr ⟨rfl, rfl⟩) ?_
                simp only [Act.put, List.setIfInBounds_toArray, List.set_cons_zero, List.set_cons_succ]
                refine wpAnyK_takeTo 25 (some 56) (undef) [26, 27, 28, 29, 30, 31] rfl rfl (by kernel_rfl) (by kernel_rfl) (by kernel_rfl) (by kernel_rfl) (fun _ _ _ h => h) hS (Or.inr ⟨rfl, rfl⟩) ?_
                simp only [Act.put, List.setIfInBounds_toArray, List.set_cons_zero, List.set_cons_succ]
                refine wpAnyK_takeTo 26 (some 57) (undef) [27, 28, 29, 30, 31] rfl rfl (by kernel_rfl) (by kernel_rfl) (by kernel_rfl) (by kernel_rfl) (fun _ _ _ h => h) hS (Or.inr ⟨rfl, rfl⟩) ?_
                simp only [Act.put, List.setIfInBounds_toArray, List.set_cons_zero, List.set_cons_succ]
                refine wpAnyK_takeTo 27 (some 58) (undef) [28, 29, 30, 31] rfl rfl (by kernel_rfl) (by kernel_rfl) (by kernel_rfl) (by kernel_rfl) (fun _ _ _ h => h) hS (Or.inr ⟨rfl, rfl⟩) ?_
                simp only [Act.put, List.setIfInBounds_toArray, List.set_cons_zero, List.set_cons_succ]
                refine wpAnyK_takeTo 28 (some 59) (undef) [29, 30, 31] rfl rfl (by kernel_rfl) (by kernel_rfl) (by kernel_rfl) (by kernel_rfl) (fun _ _ _ h => h) hS (Or.inr ⟨rfl, rfl⟩) ?_
                simp only [Act.put, List.setIfInBounds_toArray, List.set_cons_zero, List.set_cons_succ]
                refine wpAnyK_takeTo 29 (some 60) (.bool false) [30, 31] rfl rfl (by kernel_rfl) (by kernel_rfl) (by kernel_rfl) (by kernel_rfl) (fun _ _ _ h => h) hS (Or.inl ⟨rfl, fun w2 hw1 => by have hw1 : w2 = U := hw1; subst hw1; go_simp⟩) ?_
                simp only [Act.put, List.setIfInBounds_toArray, List.set_cons_zero, List.set_cons_succ]
                refine wpAnyK_takeTo 30 (some 61) (.bool false) [31] rfl rfl (by kernel_rfl) (by kernel_rfl) (by kernel_rfl) (by kernel_rfl) (fun _ _ _ h => h) hS (Or.inl ⟨rfl, fun w2 hw1 => by have hw1 : w2 = U := hw1; subst hw1; go_simp⟩) ?_
                simp only [Act.put, List.setIfInBounds_toArray, List.set_cons_zero, List.set_cons_succ]
                refine wpAnyK_takeTo 31 (some 62) (.bool false) [] rfl rfl (by kernel_rfl) (by kernel_rfl) (by kernel_rfl) (by kernel_rfl) (fun _ _ _ h => h) hS (Or.inl ⟨rfl, fun w2 hw1 => by have hw1 : w2 = U := hw1; subst hw1; go_simp⟩) ?_
                simp only [Act.put, List.setIfInBounds_toArray, List.set_cons_zero, List.set_cons_succ]
                refine wpAnyK_done (by kernel_rfl) ?_ _
                obtain ⟨v', Z', hr, hg'⟩ := (show RowG Y _ M U from HG.out).push q 26 (by have h : M.length + 3 ≤ 2199023255552 := HLEN.out; omega)
                have HS2 : Hid (insS p (L.take (j + 1)) = (M ++ [q], false)) := hide (by rw [HS.out]; simp [stepI, hab])
                have HG' := hide hg'
                clear hg' hS k1 k2 k3
                go_wp2_with (refine wpList_plain rfl fun _ hK => wp_append_to (.tmp 67) (.tmp 72) 26 rfl _ rfl _ rfl _ (.slice (some ⟨U.heap.size, 0, none⟩) 1 1) rfl rfl _ _ hr (hK _ _ ?_); clear hK)
                go_roundw
                case rel => exact ⟨j + 1, by omega, by go_num, by rw [HS2.out], by rw [HS2.out]; exact HG'.out⟩
                case measure => simp [intOf]; omega
          · have hab : aheadB p q = aheadB p q := rfl
            refine wpAnyK_takeTo 0 (some 31) (.bool true) [1, 2, 3, 4, 5, 6, 7, 8, 9, 10, 11, 12, 13, 14, 15, 16, 17, 18, 19, 20, 21, 22, 23, 24, 25, 26, 27, 28, 29, 30, 31] rfl rfl (by kernel_rfl) (by kernel_rfl) (by kernel_rfl) (by kernel_rfl) (fun _ _ _ h => h) hS (Or.inl ⟨rfl, fun w2 hw1 => by have hw1 : w2 = U := hw1; subst hw1; go_simp⟩) ?_
            simp only [Act.put, List.setIfInBounds_toArray, List.set_cons_zero, List.set_cons_succ]
            refine wpAnyK_takeTo 1 (some 32) (.bool false) [2, 3, 4, 5, 6, 7, 8, 9, 10, 11, 12, 13, 14, 15, 16, 17, 18, 19, 20, 21, 22, 23, 24, 25, 26, 27, 28, 29, 30, 31] rfl rfl (by kernel_rfl) (by kernel_rfl) (by kernel_rfl) (by kernel_rfl) (fun _ _ _ h => h) hS (Or.inl ⟨rfl, fun w2 hw1 => by have hw1 : w2 = U := hw1; subst hw1; go_simp⟩) ?_
            simp only [Act.put, List.setIfInBounds_toArray, List.set_cons_zero, List.set_cons_succ]
            refine wpAnyK_takeTo 2 (some 33) (.bool false) [3, 4, 5, 6, 7, 8, 9, 10, 11, 12, 13, 14, 15, 16, 17, 18, 19, 20, 21, 22, 23, 24, 25, 26, 27, 28, 29, 30, 31] rfl rfl (by kernel_rfl) (by kernel_rfl) (by kernel_rfl) (by kernel_rfl) (fun _ _ _ h => h) hS (Or.inl ⟨rfl, fun w2 hw1 => by have hw1 : w2 = U := hw1; subst hw1; go_simp⟩) ?_
            simp only [Act.put, List.setIfInBounds_toArray, List.set_cons_zero, List.set_cons_succ]
            refine wpAnyK_takeTo 3 (some 34) (undef) [4, 10, 11, 12, 13, 14, 15, 16, 17, 18, 19, 20, 21, 22, 23, 24, 25, 26, 27, 28, 29, 30, 31] rfl rfl (by kernel_rfl) (by kernel_rfl) (by kernel_rfl) (by kernel_rfl) (fun _ _ _ h => h) hS (Or.inr ⟨rfl, rfl⟩) ?_
            simp only [Act.put, List.setIfInBounds_toArray, List.set_cons_zero, List.set_cons_succ]
            refine wpAnyK_takeTo 4 (some 35) (undef) [10, 11, 12, 13, 14, 15, 16, 17, 18, 19, 20, 21, 22, 23, 24, 25, 26, 27, 28, 29, 30, 31] rfl rfl (by kernel_rfl) (by kernel_rfl) (by kernel_rfl) (by kernel_rfl) (fun _ _ _ h => h) hS (Or.inr ⟨rfl, rfl⟩) ?_
            simp only [Act.put, List.setIfInBounds_toArray, List.set_cons_zero, List.set_cons_succ]
            refine wpAnyK_takeTo 5 (some 36) (undef) [7, 8, 9, 10, 11, 12, 13, 14, 15, 16, 17, 18, 19, 20, 21, 22, 23, 24, 25, 26, 27, 28, 29, 30, 31] rfl rfl (by kernel_rfl) (by kernel_rfl) (by kernel_rfl) (by kernel_rfl) (fun _ _ _ h => h) hS (Or.inr ⟨rfl, rfl⟩) ?_
            simp only [Act.put, List.setIfInBounds_toArray, List.set_cons_zero, List.set_cons_succ]
            refine wpAnyK_takeTo 6 (some 37) (undef) [7, 8, 9, 10, 11, 12, 13, 14, 15, 16, 17, 18, 19, 20, 21, 22, 23, 24, 25, 26, 27, 28, 29, 30, 31] rfl rfl (by kernel_rfl) (by kernel_rfl) (by kernel_rfl) (by kernel_rfl) (fun _ _ _ h => h) hS (Or.inr ⟨rfl, rfl⟩) ?_
            simp only [Act.put, List.setIfInBounds_toArray, List.set_cons_zero, List.set_cons_succ]
            refine wpAnyK_takeTo 7 (some 38) (undef) [8, 9, 10, 11, 12, 13, 14, 15, 16, 17, 18, 19, 20, 21, 22, 23, 24, 25, 26, 27, 28, 29, 30, 31] rfl rfl (by kernel_rfl) (by kernel_rfl) (by kernel_rfl) (by kernel_rfl) (fun _ _ _ h => h) hS (Or.inr ⟨rfl, rfl⟩) ?_
            simp only [Act.put, List.setIfInBounds_toArray, List.set_cons_zero, List.set_cons_succ]
            refine wpAnyK_takeTo 8 (some 39) (undef) [9, 10, 11, 12, 13, 14, 15, 16, 17, 18, 19, 20, 21, 22, 23, 24, 25, 26, 27, 28, 29, 30, 31] rfl rfl (by kernel_rfl) (by kernel_rfl) (by kernel_rfl) (by kernel_rfl) (fun _ _ _ h => h) hS (Or.inr ⟨rfl, rfl⟩) ?_
            simp only [Act.put, List.setIfInBounds_toArray, List.set_cons_zero, List.set_cons_succ]
            refine wpAnyK_takeTo 9 (some 40) (undef) [10, 11, 12, 13, 14, 15, 16, 17, 18, 19, 20, 21, 22, 23, 24, 25, 26, 27, 28, 29, 30, 31] rfl rfl (by kernel_rfl) (by kernel_rfl) (by kernel_rfl) (by kernel_rfl) (fun _ _ _ h => h) hS (Or.inr ⟨rfl, rfl⟩) ?_
            simp only [Act.put, List.setIfInBounds_toArray, List.set_cons_zero, List.set_cons_succ]
            refine wpAnyK_takeTo 10 (some 41) (undef) [11, 12, 13, 14, 15, 16, 17, 18, 19, 20, 21, 22, 23, 24, 25, 26, 27, 28, 29, 30, 31] rfl rfl (by kernel_rfl) (by kernel_rfl) (by kernel_rfl) (by kernel_rfl) (fun _ _ _ h => h) hS (Or.inr ⟨rfl, rfl⟩) ?_
            simp only [Act.put, List.setIfInBounds_toArray, List.set_cons_zero, List.set_cons_succ]
            refine wpAnyK_takeTo 11 (some 42) (undef) [12, 13, 14, 15, 16, 17, 18, 19, 20, 21, 22, 23, 24, 25, 26, 27, 28, 29, 30, 31] rfl rfl (by kernel_rfl) (by kernel_rfl) (by kernel_rfl) (by kernel_rfl) (fun _ _ _ h => h) hS (Or.inr ⟨rfl, rfl⟩) ?_
            simp only [Act.put, List.setIfInBounds_toArray, List.set_cons_zero, List.set_cons_succ]
            refine wpAnyK_takeTo 12 (some 43) (undef) [13, 19, 20, 21, 22, 23, 24, 25, 26, 27, 28, 29, 30, 31] rfl rfl (by kernel_rfl) (by kernel_rfl) (by kernel_rfl) (by kernel_rfl) (fun _ _ _ h => h) hS (Or.inr ⟨rfl, rfl⟩) ?_
            simp only [Act.put, List.setIfInBounds_toArray, List.set_cons_zero, List.set_cons_succ]
            refine wpAnyK_takeTo 13 (some 44) (undef) [19, 20, 21, 22, 23, 24, 25, 26, 27, 28, 29, 30, 31] rfl rfl (by kernel_rfl) (by kernel_rfl) (by kernel_rfl) (by kernel_rfl) (fun _ _ _ h => h) hS (Or.inr ⟨rfl, rfl⟩) ?_
            simp only [Act.put, List.setIfInBounds_toArray, List.set_cons_zero, List.set_cons_succ]
            refine wpAnyK_takeTo 14 (some 45) (undef) [16, 17, 18, 19, 20, 21, 22, 23, 24, 25, 26, 27, 28, 29, 30, 31] rfl rfl (by kernel_rfl) (by kernel_rfl) (by kernel_rfl) (by kernel_rfl) (fun _ _ _ h => h) hS (Or.inr ⟨rfl, rfl⟩) ?_
            simp only [Act.put, List.setIfInBounds_toArray, List.set_cons_zero, List.set_cons_succ]
            refine wpAnyK_takeTo 15 (some 46) (undef) [16, 17, 18, 19, 20, 21, 22, 23, 24, 25, 26, 27, 28, 29, 30, 31] rfl rfl (by kernel_rfl) (by kernel_rfl) (by kernel_rfl) (by kernel_rfl) (fun _ _ _ h => h) hS (Or.inr ⟨rfl, rfl⟩) ?_
            simp only [Act.put, List.setIfInBounds_toArray, List.set_cons_zero, List.set_cons_succ]
            refine wpAnyK_takeTo 16 (some 47) (undef) [17, 18, 19, 20, 21, 22, 23, 24, 25, 26, 27, 28, 29, 30, 31] rfl rfl (by kernel_rfl) (by kernel_rfl) (by kernel_rfl) (by kernel_rfl) (fun _ _ _ h => h) hS (Or.inr ⟨rfl, rfl⟩) ?_
            simp only [Act.put, List.setIfInBounds_toArray, List.set_cons_zero, List.set_cons_succ]
            refine wpAnyK_takeTo 17 (some 48) (undef) [18, 19, 20, 21, 22, 23, 24, 25, 26, 27, 28, 29, 30, 31] rfl rfl (by kernel_rfl) (by kernel_rfl) (by kernel_rfl) (by kernel_rfl) (fun _ _ _ h => h) hS (Or.inr ⟨rfl, rfl⟩) ?_
            simp only [Act.put, List.setIfInBounds_toArray, List.set_cons_zero, List.set_cons_succ]
            refine wpAnyK_takeTo 18 (some 49) (undef) [19, 20, 21, 22, 23, 24, 25, 26, 27, 28, 29, 30, 31] rfl rfl (by kernel_rfl) (by kernel_rfl) (by kernel_rfl) (by kernel_rfl) (fun _ _ _ h => h) hS (Or.inr ⟨rfl, rfl⟩) ?_
            simp only [Act.put, List.setIfInBounds_toArray, List.set_cons_zero, List.set_cons_succ]
            refine wpAnyK_takeTo 19 (some 50) (undef) [20, 21, 22, 23, 24, 25, 26, 27, 28, 29, 30, 31] rfl rfl (by kernel_rfl) (by kernel_rfl) (by kernel_rfl) (by kernel_rfl) (fun _ _ _ h => h) hS (Or.inr ⟨rfl, rfl⟩) ?_
            simp only [Act.put, List.setIfInBounds_toArray, List.set_cons_zero, List.set_cons_succ]
            refine wpAnyK_takeTo 20 (some 51) (undef) [21, 22, 23, 24, 25, 26, 27, 28, 29, 30, 31] rfl rfl (by kernel_rfl) (by kernel_rfl) (by kernel_rfl) (by kernel_rfl) (fun _ _ _ h => h) hS (Or.inr ⟨rfl, rfl⟩) ?_
            simp only [Act.put, List.setIfInBounds_toArray, List.set_cons_zero, List.set_cons_succ]
            refine wpAnyK_takeTo 21 (some 52) (undef) [22, 28, 29, 30, 31] rfl rfl (by kernel_rfl) (by kernel_rfl) (by kernel_rfl) (by kernel_rfl) (fun _ _ _ h => h) hS (Or.inr ⟨rfl, rfl⟩) ?_
            simp only [Act.put, List.setIfInBounds_toArray, List.set_cons_zero, List.set_cons_succ]
            refine wpAnyK_takeTo 22 (some 53) (undef) [28, 29, 30, 31] rfl rfl (by kernel_rfl) (by kernel_rfl) (by kernel_rfl) (by kernel_rfl) (fun _ _ _ h => h) hS (Or.inr ⟨rfl, rfl⟩) ?_
            simp only [Act.put, List.setIfInBounds_toArray, List.set_cons_zero, List.set_cons_succ]
            refine wpAnyK_takeTo 23 (some 54) (undef) [25, 26, 27, 28, 29, 30, 31] rfl rfl (by kernel_rfl) (by kernel_rfl) (by kernel_rfl) (by kernel_rfl) (fun _ _ _ h => h) hS (Or.inr ⟨rfl, rfl⟩) ?_
            simp only [Act.put, List.setIfInBounds_toArray, List.set_cons_zero, List.set_cons_succ]
            refine wpAnyK_takeTo 24 (some 55) (undef) [25, 26, 27, 28, 29, 30, 31] rfl rfl (by kernel_rfl) (by kernel_rfl) (by kernel_rfl) (by kernel_rfl) (fun _ _ _ h => h) hS (Or.inr ⟨rfl, rfl⟩) ?_
            simp only [Act.put, List.setIfInBounds_toArray, List.set_cons_zero, List.set_cons_succ]
            refine wpAnyK_takeTo 25 (some 56) (undef) [26, 27, 28, 29, 30, 31] rfl rfl (by kernel_rfl) (by kernel_rfl) (by kernel_rfl) (by kernel_rfl) (fun _ _ _ h => h) hS (Or.inr ⟨rfl, rfl⟩) ?_
            simp only [Act.put, List.setIfInBounds_toArray, List.set_cons_zero, List.set_cons_succ]
            refine wpAnyK_takeTo 26 (some 57) (undef) [27, 28, 29, 30, 31] rfl rfl (by kernel_rfl) (by kernel_rfl) (by kernel_rfl) (by kernel_rfl) (fun _ _ _ h => h) hS (Or.inr ⟨rfl, rfl⟩) ?_
            simp only [Act.put, List.setIfInBounds_toArray, List.set_cons_zero, List.set_cons_succ]
            refine wpAnyK_takeTo 27 (some 58) (undef) [28, 29, 30, 31] rfl rfl (by kernel_rfl) (by kernel_rfl) (by kernel_rfl) (by kernel_rfl) (fun _ _ _ h => h) hS (Or.inr ⟨rfl, rfl⟩) ?_
            simp only [Act.put, List.setIfInBounds_toArray, List.set_cons_zero, List.set_cons_succ]
            refine wpAnyK_takeTo 28 (some 59) (undef) [29, 30, 31] rfl rfl (by kernel_rfl) (by kernel_rfl) (by kernel_rfl) (by kernel_rfl) (fun _ _ _ h => h) hS (Or.inr ⟨rfl, rfl⟩) ?_
            simp only [Act.put, List.setIfInBounds_toArray, List.set_cons_zero, List.set_cons_succ]
            refine wpAnyK_takeTo 29 (some 60) (undef) [30, 31] rfl rfl (by kernel_rfl) (by kernel_rfl) (by kernel_rfl) (by kernel_rfl) (fun _ _ _ h => h) hS (Or.inr ⟨rfl, rfl⟩) ?_
            simp only [Act.put, List.setIfInBounds_toArray, List.set_cons_zero, List.set_cons_succ]
            refine wpAnyK_takeTo 30 (some 61) (undef) [31] rfl rfl (by kernel_rfl) (by kernel_rfl) (by kernel_rfl) (by kernel_rfl) (fun _ _ _ h => h) hS (Or.inr ⟨rfl, rfl⟩) ?_
            simp only [Act.put, List.setIfInBounds_toArray, List.set_cons_zero, List.set_cons_succ]
            refine wpAnyK_takeTo 31 (some 62) (.bool false) [] rfl rfl (by kernel_rfl) (by kernel_rfl) (by kernel_rfl) (by kernel_rfl) (fun _ _ _ h => h) hS (Or.inl ⟨rfl, fun w2 hw1 => by have hw1 : w2 = U := hw1; subst hw1; go_simp⟩) ?_
            simp only [Act.put, List.setIfInBounds_toArray, List.set_cons_zero, List.set_cons_succ]
            refine wpAnyK_done (by kernel_rfl) ?_ _
            obtain ⟨v', Z', hr, hg'⟩ := (show RowG Y _ M U from HG.out).push q 26 (by have h : M.length + 3 ≤ 2199023255552 := HLEN.out; omega)
            have HS2 : Hid (insS p (L.take (j + 1)) = (M ++ [q], true)) := hide (by rw [HS.out]; simp [stepI, hab])
            have HG' := hide hg'
            clear hg' hS k1 k2 k3
            go_wp2_with (refine wpList_plain rfl fun _ hK => wp_append_to (.tmp 67) (.tmp 72) 26 rfl _ rfl _ rfl _ (.slice (some ⟨U.heap.size, 0, none⟩) 1 1) rfl rfl _ _ hr (hK _ _ ?_); clear hK)
            go_roundw
            case rel => exact ⟨j + 1, by omega, by go_num, by rw [HS2.out], by rw [HS2.out]; exact HG'.out⟩
            case measure => simp [intOf]; omega
        · have e1 : n = j := by omega
          subst e1
          rw [List.take_of_length_le (by rw [HN.out]; exact Nat.le_refl _)] at hg ⊢
          have HE := hide (insS_end p L)
          have hlen : (insS p L).1.length + 3 ≤ 2199023255552 := by
            have h1 := insS_len p L
            have := HN.out
            omega
          generalize hs : insS p L = s at *
          obtain ⟨M, d⟩ := s
          clear hs
          obtain ⟨k1, k2, k3⟩ := (HB2.out.fr hg.2.1 (fun h => h)).pt
          have HG := hide hg
          have HLEN := hide hlen
          clear hg hlen
          skip
          cases d
          · obtain ⟨v', Z', hr, hg'⟩ := (show RowG Y _ M Z from HG.out).push p 26 (by have h : M.length + 3 ≤ 2199023255552 := HLEN.out; omega)
            have HG' := hide hg'
            clear hg'
            go_wp2_with (refine wpList_plain rfl fun _ hK => wp_append_to (.tmp 76) (.tmp 78) 26 rfl _ rfl _ rfl _ (.slice (some ⟨Z.heap.size, 0, none⟩) 1 1) rfl rfl _ _ hr (hK _ _ ?_); clear hK)
            go_ret2
            exact .inr ⟨HNO.out, _, rfl, by have h := HG'.out.under HF2.out; rw [← HE.out]; exact h⟩
          · go_wp2
            go_ret2
            exact .inr ⟨HNO.out, _, rfl, by have h := HG.out.under HF2.out; rw [← HE.out]; exact h⟩
end Go.Proofs.Ytklnaeldhdhmiaa
