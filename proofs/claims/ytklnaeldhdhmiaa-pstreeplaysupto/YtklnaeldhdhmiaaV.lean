/- The walk of PstreeDrains. -/
import Derived.Test.YtklnaeldhdhmiaaO
import Derived.Test.YtklnaeldhdhmiaaM2
namespace Go.Proofs.Ytklnaeldhdhmiaa
open Go.RowKit Go.Sort
set_option maxRecDepth 100000
set_option linter.unusedVariables false
set_option linter.unusedSimpArgs false

set_option maxHeartbeats 4000000 in
theorem addT_has {w : World} {base gt : Nat} {L : List Pt} {X : Nat → Prop} (h : TR w base gt L X) (p q : Pt) (hid : In64 p.id) (hq : q ∈ L) (hqi : q.id = p.id) : Calls Try.prog 13 #[.pointer (some ⟨gt, 0, none⟩), p.agg] w fun e w' => e = .returned (.int .i64 90) ∧ Fr w w' (fun _ => False) := by
  obtain ⟨gm, ra, t, S, h1, h2, h3, h4, h5, h6, _⟩ := h
  unfold Pt.agg
  have hpy := px_some h6 hq
  rw [hqi] at hpy
  have FA := (Fr.alloc w (.cells #[.int .i64 p.x, .int .i64 p.y, .int .i64 p.id] 28) (fun _ => False)).both (Fr.drew _ (fun _ => False))
  have hbn : BoxAt (w.alloc (.cells #[.int .i64 p.x, .int .i64 p.y, .int .i64 p.id] 28)).drew w.heap.size p := heap_alloc_new w _
  have c0 : (w.alloc (.cells #[.int .i64 p.x, .int .i64 p.y, .int .i64 p.id] 28)).drew.cell? ⟨gt, 0, none⟩ = some (.map (some gm)) := FA.cell' (fun h => h) ((cell_of_row _ _ _ _ _ _ h1).trans rfl)
  have hm1 := h2.fr FA (fun h => h)
  have HM1 := hide hm1
  have HPY := hide hpy
  have HID := hide hid
  have HFA := hide FA
  obtain ⟨x0, x1, x2⟩ := hbn.pt
  clear h1 h2 h3 h4 h5 h6 hpy hm1 FA hbn hq hqi hid
  go_enter Try.func13, Try.ntmps13
  go_wp2_with fail
  refine wp_region_K (fun _ => true) (fun U : World => U = (w.alloc (.cells #[.int .i64 p.x, .int .i64 p.y, .int .i64 p.id] 28)).drew) (by kernel_rfl) ?_
  generalize (w.alloc (.cells #[.int .i64 p.x, .int .i64 p.y, .int .i64 p.id] 28)).drew = U0 at *
  generalize w.heap.size = gb at *
  have hlk : (Instr.lookup 52 (.map (some gm)) (.int .i64 p.id) true).run Try.prog U0 = .ok (.tuple #[.int .i64 q.x, .bool true]) U0 := by
    have := HM1.out.mf.look_ok (x := p.id) HID.out
    rw [HPY.out] at this
    exact this
  have hS : (fun U : World => U = U0) U0 := rfl
  refine wpAnyK_takeTo 0 (some 8) (.pointer (some ⟨gt, 0, none⟩)) [1, 2, 3, 6, 7, 8, 9, 10, 11] rfl rfl (by kernel_rfl) (by kernel_rfl) (by kernel_rfl) (by kernel_rfl) (fun _ _ _ h => h) hS (Or.inl ⟨rfl, fun w1 hw1 => by have hw1 : w1 = U0 := hw1; subst hw1; go_simp⟩) ?_
  simp only [Act.put, List.setIfInBounds_toArray, List.set_cons_zero, List.set_cons_succ]
  refine wpAnyK_takeTo 1 (some 9) (.pointer (some ⟨gt, 0, none⟩)) [2, 3, 6, 7, 8, 9, 10, 11] rfl rfl (by kernel_rfl) (by kernel_rfl) (by kernel_rfl) (by kernel_rfl) (fun _ _ _ h => h) hS (Or.inl ⟨rfl, fun w1 hw1 => by have hw1 : w1 = U0 := hw1; subst hw1; go_simp⟩) ?_
  simp only [Act.put, List.setIfInBounds_toArray, List.set_cons_zero, List.set_cons_succ]
  refine wpAnyK_takeTo 2 (some 10) (.pointer (some ⟨gt, 0, none⟩)) [3, 6, 7, 8, 9, 10, 11] rfl rfl (by kernel_rfl) (by kernel_rfl) (by kernel_rfl) (by kernel_rfl) (fun _ _ _ h => h) hS (Or.inl ⟨rfl, fun w1 hw1 => by have hw1 : w1 = U0 := hw1; subst hw1; go_simp⟩) ?_
  simp only [Act.put, List.setIfInBounds_toArray, List.set_cons_zero, List.set_cons_succ]
  refine wpAnyK_takeTo 3 (some 11) (.map (some gm)) [6, 7, 8, 9, 10, 11] rfl rfl (by kernel_rfl) (by kernel_rfl) (by kernel_rfl) (by kernel_rfl) (fun _ _ _ h => h) hS (Or.inl ⟨rfl, fun w1 hw1 => by have hw1 : w1 = U0 := hw1; subst hw1; go_simp⟩) ?_
  simp only [Act.put, List.setIfInBounds_toArray, List.set_cons_zero, List.set_cons_succ]
  refine wpAnyK_takeTo 4 (some 12) (.pointer (some ⟨gb, 2, none⟩)) [5, 6, 7, 8, 9, 10, 11] rfl rfl (by kernel_rfl) (by kernel_rfl) (by kernel_rfl) (by kernel_rfl) (fun _ _ _ h => h) hS (Or.inl ⟨rfl, fun w1 hw1 => by have hw1 : w1 = U0 := hw1; subst hw1; go_simp⟩) ?_
  simp only [Act.put, List.setIfInBounds_toArray, List.set_cons_zero, List.set_cons_succ]
  refine wpAnyK_takeTo 5 (some 13) (.int .i64 p.id) [6, 7, 8, 9, 10, 11] rfl rfl (by kernel_rfl) (by kernel_rfl) (by kernel_rfl) (by kernel_rfl) (fun _ _ _ h => h) hS (Or.inl ⟨rfl, fun w1 hw1 => by have hw1 : w1 = U0 := hw1; subst hw1; go_simp⟩) ?_
  simp only [Act.put, List.setIfInBounds_toArray, List.set_cons_zero, List.set_cons_succ]
  refine wpAnyK_takeTo 6 (some 14) (.tuple #[.int .i64 q.x, .bool true]) [7, 8, 9, 10, 11] rfl rfl (by kernel_rfl) (by kernel_rfl) (by kernel_rfl) (by kernel_rfl) (fun _ _ _ h => h) hS (Or.inl ⟨rfl, fun w1 hw1 => by have hw1 : w1 = U0 := hw1; subst hw1; go_simp⟩) ?_
  simp only [Act.put, List.setIfInBounds_toArray, List.set_cons_zero, List.set_cons_succ]
  refine wpAnyK_takeTo 7 (some 7) (.tuple #[.int .i64 q.x, .bool true]) [8, 9, 10, 11] rfl rfl (by kernel_rfl) (by kernel_rfl) (by kernel_rfl) (by kernel_rfl) (fun _ _ _ h => h) hS (Or.inl ⟨rfl, fun w1 hw1 => by have hw1 : w1 = U0 := hw1; subst hw1; go_simp⟩) ?_
  simp only [Act.put, List.setIfInBounds_toArray, List.set_cons_zero, List.set_cons_succ]
  refine wpAnyK_takeTo 8 (some 15) (.int .i64 q.x) [10, 11] rfl rfl (by kernel_rfl) (by kernel_rfl) (by kernel_rfl) (by kernel_rfl) (fun _ _ _ h => h) hS (Or.inl ⟨rfl, fun w1 hw1 => by have hw1 : w1 = U0 := hw1; subst hw1; go_simp⟩) ?_
  simp only [Act.put, List.setIfInBounds_toArray, List.set_cons_zero, List.set_cons_succ]
  refine wpAnyK_takeTo 9 (some 16) (.bool true) [11] rfl rfl (by kernel_rfl) (by kernel_rfl) (by kernel_rfl) (by kernel_rfl) (fun _ _ _ h => h) hS (Or.inl ⟨rfl, fun w1 hw1 => by have hw1 : w1 = U0 := hw1; subst hw1; go_simp⟩) ?_
  simp only [Act.put, List.setIfInBounds_toArray, List.set_cons_zero, List.set_cons_succ]
  clear hlk
  refine wpAnyK_one (i := 10) (by kernel_rfl) rfl rfl ?_
  go_simp
  refine wpAnyK_one (i := 11) (by kernel_rfl) rfl rfl ?_
  go_simp
  refine wpAnyK_done (by kernel_rfl) ?_ _
  clear hS c0 x0 x1 x2
  go_wp2
  go_ret
  exact ⟨rfl, HFA.out⟩
/-- A tree among what was there. -/
def TF (w : World) (bs gt : Nat) (P : List Pt) (W : World) : Prop := ∃ X : Nat → Prop, TR W bs gt P X ∧ (∀ k, X k → bs ≤ k) ∧ Fr w W (fun k => bs ≤ k) ∧ bs ≤ W.heap.size
section
variable {w W W' : World} {bs gt : Nat} {P : List Pt}
theorem TF.fr (h : TF w bs gt P W) (hf : Fr W W' (fun _ => False)) : TF w bs gt P W' := by
  obtain ⟨X, h1, h2, h3, h4⟩ := h
  exact ⟨X, h1.fr hf (fun _ _ h => h), h2, (h3.trans hf).mono (fun k _ h => by rcases h with h | h; exact h; exact h.elim), Nat.le_trans h4 hf.size⟩
theorem TF.add (h : TF w bs gt P W) (p : Pt) (hid : In64 p.id) (hnew : ∀ q ∈ P, q.id ≠ p.id) (hsz : P.length + 1 ≤ 1099511627776) : Calls Try.prog 13 #[.pointer (some ⟨gt, 0, none⟩), p.agg] W fun e W' => e = .returned (.int .i64 0) ∧ TF w bs gt (p :: P) W' := by
  obtain ⟨X, h1, h2, h3, h4⟩ := h
  refine (addT_any h1 p hid hnew hsz h4).mono ?_
  rintro e W' ⟨rfl, ⟨X', q1, q2⟩, q3⟩
  refine ⟨rfl, X', q1, fun k hk => ?_, (h3.trans q3).mono (fun k _ h => by rcases h with h | h; exact h; exact h2 k h), Nat.le_trans h4 q3.size⟩
  rcases q2 k hk with h | h
  · exact h2 k h
  · omega
theorem TF.has (h : TF w bs gt P W) (p q : Pt) (hid : In64 p.id) (hq : q ∈ P) (hqi : q.id = p.id) : Calls Try.prog 13 #[.pointer (some ⟨gt, 0, none⟩), p.agg] W fun e W' => e = .returned (.int .i64 90) ∧ TF w bs gt P W' := by
  obtain ⟨X, h1, h2, h3, h4⟩ := h
  refine (addT_has h1 p q hid hq hqi).mono ?_
  rintro e W' ⟨rfl, f⟩
  exact ⟨rfl, TF.fr ⟨X, h1, h2, h3, h4⟩ f⟩
/-- Cut: a box that was made after the tree stays as it is. -/
theorem TF.cut (h : TF w bs gt P W) (y : Pt) (hid : In64 y.id) (hy : y ∈ P) (hsz : P.length ≤ 1099511627776) (o : Obj) : Calls Try.prog 15 #[.pointer (some ⟨gt, 0, none⟩), .int .i64 y.id] (W.alloc o).drew fun e W' => e = .returned (.int .i64 0) ∧ (∃ M, (y :: M).Perm P ∧ TF w bs gt M W') ∧ W'.heap[W.heap.size]? = some o := by
  have hh := h
  obtain ⟨X, h1, h2, h3, h4⟩ := h
  have f0 := (Fr.alloc W o (fun _ => False)).both (Fr.drew _ (fun _ => False))
  have h1' := h1.fr f0 (fun _ _ h => h)
  obtain ⟨_, _, _, h3', h4'⟩ := TF.fr hh f0
  refine (cutT_any h1' y hid hy hsz (Nat.le_trans h4 f0.size)).mono ?_
  rintro e W' ⟨rfl, ⟨M, X', q1, qp, q2⟩, q3⟩
  have hnew : (W.alloc o).drew.heap[W.heap.size]? = some o := heap_alloc_new W o
  refine ⟨rfl, ⟨M, qp, X', q1, fun k hk => ?_, ?_, Nat.le_trans (Nat.le_trans h4 f0.size) q3.size⟩, ?_⟩
  · rcases q2 k hk with h | h
    · exact h2 k h
    · have := f0.size; omega
  · exact ((h3.trans f0).trans q3).mono (fun k _ h => by rcases h with (h | h) | h; exact h; exact h.elim; exact h2 k h)
  · rw [q3.block _ (Array.getElem?_eq_some_iff.1 hnew).1 (fun h => by have := (h1.lt _ h).2; omega)]
    exact hnew
theorem TF.cutNo (h : TF w bs gt P W) (id : Int) (hid : In64 id) (hno : ∀ q ∈ P, q.id ≠ id) : Calls Try.prog 15 #[.pointer (some ⟨gt, 0, none⟩), .int .i64 id] W fun e W' => e = .returned (.int .i64 4) ∧ W' = W := by
  obtain ⟨X, h1, _⟩ := h
  exact cutT_none h1 id hid hno
theorem TF.len (h : TF w bs gt P W) : Calls Try.prog 10 #[.pointer (some ⟨gt, 0, none⟩)] W fun e W' => e = .returned (.int .i64 (P.length : Int)) ∧ W' = W := by
  obtain ⟨X, h1, _⟩ := h
  exact len_any h1
end
set_option maxHeartbeats 64000000 in
theorem drains_walk {w : World} (a : Option Addr) (n c : Nat) (L : List (Int × Int)) (hL : PersIn w a L) (hn : L.length = n) (hnb : n ≤ 1048576) (h64 : ∀ x ∈ L, In64 x.1 ∧ In64 x.2) :
    Calls Try.prog 5 #[.slice a n c] w fun x w' => x = .returned (.bool true) ∧ Fr w w' (fun _ => False) := by
  have HL := hide hL
  have HN := hide hn
  have H64 := hide h64
  clear hL hn h64
  go_enter Try.func5, Try.ntmps5
  go_wp2_with fail
  refine (awake_any w).mono ?_
  rintro e W1 ⟨rfl, f1⟩
  have HF1 := hide f1
  clear f1
  go_wp2_with fail
  refine (new_any W1 W1.heap.size (Nat.le_refl _)).mono ?_
  rintro e W2 ⟨gt, X0, rfl, h2, hX0, f2⟩
  obtain ⟨bs, hbs⟩ : ∃ bs, W1.heap.size = bs := ⟨_, rfl⟩
  rw [hbs] at h2 hX0
  have HBS : Hid (w.heap.size ≤ bs) := hide (by have := HF1.out.size; omega)
  have HS2 : Hid (TF w bs gt (ptsN L 0) W2) := hide ⟨X0, h2, hX0, (HF1.out.two f2).mono (fun _ _ h => h.elim), by have := f2.size; omega⟩
  have HEN : Hid (∀ k, k < w.heap.size → ¬ (bs ≤ k)) := hide (fun k hk h => by have := HBS.out; omega)
  clear h2 hX0 f2 hbs HF1
  go_wp2_with fail
  go_loopw [17] (fun ix wr => ∃ j : Nat, j ≤ n ∧ ix = .int .i64 (j : Int) ∧ TF w bs gt (ptsN L j) wr) (fun ix _ => n - (intOf ix).toNat)
  case atStart => exact ⟨0, Nat.zero_le _, rfl, HS2.out⟩
  case round =>
    rename World => W
    obtain ⟨j, hj, rfl, hs⟩ := hrel
    have HS := hide hs
    clear hs HS2
    rcases Nat.lt_or_ge j n with hlt | hge
    · obtain ⟨x, hx⟩ : ∃ x, L[j]? = some x := ⟨_, List.getElem?_eq_getElem (by rw [HN.out]; exact hlt)⟩
      obtain ⟨g, off, hg, hgl, c0, c1⟩ := HL.out j x hx
      have hgb : ¬ (bs ≤ g) := by have := HBS.out; omega
      have hF : Fr w W (fun k => bs ≤ k) := by obtain ⟨_, _, _, h, _⟩ := HS.out; exact h
      have d0 := hF.cell' hgb c0
      have d1 := hF.cell' hgb c1
      subst hg
      have HPN := hide (ptsN_succ hx)
      obtain ⟨x, y⟩ := x
      simp only at d0 d1 HPN
      have hbn := heap_alloc_new W (.cells #[.int .i64 x, .int .i64 y] 42)
      have k0 : (W.alloc (.cells #[.int .i64 x, .int .i64 y] 42)).cell? ⟨W.heap.size, 0, none⟩ = some (.int .i64 x) := (cell_of_row _ _ _ _ _ _ hbn).trans rfl
      have k1 : (W.alloc (.cells #[.int .i64 x, .int .i64 y] 42)).cell? ⟨W.heap.size, 1, none⟩ = some (.int .i64 y) := (cell_of_row _ _ _ _ _ _ hbn).trans rfl
      have hij : In64 (j : Int) := by constructor <;> omega
      have HIJ := hide hij
      have HAD := hide ((HS.out.fr (Fr.alloc W (.cells #[.int .i64 x, .int .i64 y] 42) (fun _ => False))).add ⟨x, y, (j : Int)⟩ hij ptsN_new (by rw [ptsN_length (by rw [HN.out]; omega)]; omega))
      unfold Pt.agg at HAD
      clear hx hgl c0 c1 hgb hF hbn hij HS
      go_wp2_with fail
      refine HAD.out.mono ?_
      rintro e V ⟨rfl, hV⟩
      have HV := hide hV
      have HHA := hide (hV.has ⟨0, 0, (j : Int)⟩ ⟨x, y, (j : Int)⟩ HIJ.out (by simp) rfl)
      unfold Pt.agg at HHA
      clear hV HAD d0 d1 k0 k1
      go_wp2_with fail
      refine HHA.out.mono ?_
      rintro e V2 ⟨rfl, hV2⟩
      have HNX : Hid (TF w bs gt (ptsN L (j + 1)) V2) := hide (by rw [HPN.out]; exact hV2)
      clear hV2 HHA HV
      go_wp2
      go_roundw
      case rel => exact ⟨j + 1, by omega, by go_num, HNX.out⟩
      case measure => simp [intOf]; omega
    · have e1 : n = j := by omega
      subst e1
      go_wp2_with fail
      go_loopw [6, 7] (fun v6 v7 wr => ∃ (m : Nat) (la : Int) (M : List Pt), m ≤ n ∧ v6 = .int .i64 la ∧ v7 = .int .i64 (m : Int) ∧ TF w bs gt M wr ∧ M.length = m ∧ (∀ q ∈ M, q.y ≤ la ∧ q ∈ ptsN L n)) (fun _ v7 _ => (intOf v7).toNat)
      case atStart => exact ⟨n, 9223372036854775807, ptsN L n, Nat.le_refl _, rfl, rfl, HS.out, ptsN_length (by rw [HN.out]; exact Nat.le_refl _), fun q hq => ⟨by
        obtain ⟨i, x, _, h2, h3⟩ := ptsN_mem.1 hq
        have := (H64.out x (List.mem_of_getElem? h2)).2
        rw [h3]
        exact this.2, hq⟩⟩
      case round =>
        rename World => Y
        obtain ⟨m, la, M, hm, rfl, rfl, hT, hlen, hall⟩ := hrel
        have HT := hide hT
        have HLE := hide hlen
        have HAL := hide hall
        clear hT hlen hall HS
        rcases Nat.eq_zero_or_pos m with hm0 | hm0
        · subst hm0
          have hM0 : M = [] := List.eq_nil_of_length_eq_zero HLE.out
          subst hM0
          obtain ⟨X, hX1, _, hX3, _⟩ := HT.out
          have HTN := hide (top_none hX1)
          clear hX1
          go_wp2_with fail
          refine HTN.out.mono ?_
          rintro e V ⟨p, rfl, fV⟩
          unfold Pt.agg
          have HTV := hide ((HT.out.fr fV).fr (Fr.alloc V (.cells #[.int .i64 p.x, .int .i64 p.y, .int .i64 p.id] 28) (fun _ => False)))
          have HFI : Hid (Calls Try.prog 12 #[.pointer (some ⟨gt, 0, none⟩), .int .i64 (-9223372036854775808), .int .i64 9223372036854775807, .int .i64 (-9223372036854775808)] (V.alloc (.cells #[.int .i64 p.x, .int .i64 p.y, .int .i64 p.id] 28)) fun e W' => FindPost (V.alloc (.cells #[.int .i64 p.x, .int .i64 p.y, .int .i64 p.id] 28)) [] (-9223372036854775808) 9223372036854775807 (-9223372036854775808) e W') := hide (by obtain ⟨Z, hZ, _⟩ := HTV.out; exact findT_any hZ (by simp) _ _ _)
          have HFW : Hid (Fr w (V.alloc (.cells #[.int .i64 p.x, .int .i64 p.y, .int .i64 p.id] 28)) (fun k => bs ≤ k)) := hide (by obtain ⟨_, _, _, h, _⟩ := HTV.out; exact h)
          clear fV HTN HTV
          go_wp2_with fail
          refine HFI.out.mono ?_
          rintro e V1 ⟨v1, T1, rfl, o1, p1, _, f1, _⟩
          have hT1 : T1 = [] := List.perm_nil.1 p1
          subst hT1
          obtain ⟨a1, c1, rfl⟩ := shape_n o1
          have HEND : Hid (Fr w V1 (fun _ => False)) := hide ((HFW.out.trans f1).mono (fun k hk h => by rcases h with h | h; exact HEN.out k hk h; exact h))
          clear o1 p1 f1 HFI
          go_wp2
          go_ret
          exact ⟨rfl, HEND.out⟩
        · obtain ⟨X, hX1, _, hX3, _⟩ := HT.out
          have HTP := hide (top_any hX1 (by intro h; rw [h] at HLE; have := HLE.out; simp at this; omega))
          clear hX1 hX3
          have hmp : (m : Int) > 0 := by omega
          have hmpb : decide ((m : Int) > 0) = true := by simp; omega
          go_wp2_with fail
          refine HTP.out.mono ?_
          rintro e V ⟨p, rfl, hpm, hpa, fV⟩
          obtain ⟨i, x, hin, hiL, hpi⟩ := ptsN_mem.1 (HAL.out p hpm).2
          have hpid : p.id = (i : Int) := by rw [hpi]
          have hpy : p.y = x.2 := by rw [hpi]
          have hyla : ¬ (p.y > la) := by have := (HAL.out p hpm).1; omega
          have hylab : decide (p.y > la) = false := by simp; omega
          have hi0 : decide ((i : Int) < 0) = false := by simp
          have hi1 : decide ((i : Int) ≥ (n : Int)) = false := by simp; omega
          obtain ⟨g, off, hg, _, _, c1⟩ := HL.out i x hiL
          subst hg
          have hgb : ¬ (bs ≤ g) := by have := HBS.out; have := World.block_lt_of_cell? w _ c1; omega
          rw [← hpy] at c1
          have HTV := hide (HT.out.fr fV)
          obtain ⟨Bx, hBx⟩ : ∃ Bx : Obj, Bx = .cells #[.int .i64 p.x, .int .i64 p.y, .int .i64 (i : Int)] 28 := ⟨_, rfl⟩
          have HI64 : Hid (In64 p.id) := hide (by rw [hpid]; constructor <;> omega)
          have hcut := HTV.out.cut p HI64.out hpm (by rw [HLE.out]; omega) Bx
          rw [hpid] at hcut
          have HCU := hide hcut
          have HC1 : Hid (∀ Z : World, Fr w Z (fun k => bs ≤ k) → Z.cell? ⟨g, off + i * 2 + 1, none⟩ = some (.int .i64 p.y)) := hide (fun Z hZ => hZ.cell' hgb c1)
          have HBB : Hid (∀ Z : World, Z.heap[V.heap.size]? = some Bx → PtAt Z V.heap.size 0 p) := hide (fun Z hZ => by
            have : BoxAt Z V.heap.size p := by unfold BoxAt; rw [hZ, hBx, hpid]
            exact this.pt)
          have HPA := hide hpa
          have HPM := hide hpm
          have HPID := hide hpid
          unfold Pt.agg
          rw [hpid]
          have HBX := hide hBx
          clear hpm hpa fV hpi hiL c1 hgb hcut hpid hpy hBx HTP
          go_wp2_with fail
          rw [← HBX.out]
          refine wp_region_K (fun _ => true) (fun U : World => PtAt U V.heap.size 0 p ∧ U.cell? ⟨g, off + i * 2 + 1, none⟩ = some (.int .i64 p.y)) (by kernel_rfl) ?_
          have hS : (fun U : World => PtAt U V.heap.size 0 p ∧ U.cell? ⟨g, off + i * 2 + 1, none⟩ = some (.int .i64 p.y)) (V.alloc Bx).drew := ⟨HBB.out _ (heap_alloc_new V Bx), HC1.out _ (by obtain ⟨_, _, _, h, _⟩ := (HTV.out.fr (Fr.alloc V Bx (fun _ => False))).fr (Fr.drew _ (fun _ => False)); exact h)⟩
          generalize (V.alloc Bx).drew = U at *
          generalize V.heap.size = gx at *
          clear HBX
          refine wpAnyK_takeTo 0 (some 50) (.int .i64 0) [1, 2, 3, 4, 5, 6, 7, 8, 9, 10, 11, 12, 13, 14, 15, 16, 17, 18, 19, 20, 21, 22, 23, 24, 25, 26, 27, 28, 29, 30, 31, 32, 33, 34, 35, 36, 37, 38, 39, 40, 41, 42, 43, 44, 45, 46, 47, 48, 49, 50, 51] rfl rfl (by kernel_rfl) (by kernel_rfl) (by kernel_rfl) (by kernel_rfl) (fun _ _ _ h => h) hS (Or.inl ⟨rfl, fun w1 hw1 => by obtain ⟨⟨q1, q2, q3⟩, q4⟩ := hw1; rw [HPID.out] at q3; go_simp⟩) ?_
          simp only [Act.put, List.setIfInBounds_toArray, List.set_cons_zero, List.set_cons_succ]
          refine wpAnyK_takeTo 1 (some 51) (.bool false) [2, 3, 4, 5, 6, 7, 8, 9, 10, 11, 12, 13, 14, 15, 16, 17, 18, 19, 20, 21, 22, 23, 24, 25, 26, 27, 28, 29, 30, 31, 32, 33, 34, 35, 36, 37, 38, 39, 40, 41, 42, 43, 44, 45, 46, 47, 48, 49, 50, 51] rfl rfl (by kernel_rfl) (by kernel_rfl) (by kernel_rfl) (by kernel_rfl) (fun _ _ _ h => h) hS (Or.inl ⟨rfl, fun w1 hw1 => by obtain ⟨⟨q1, q2, q3⟩, q4⟩ := hw1; rw [HPID.out] at q3; go_simp⟩) ?_
          simp only [Act.put, List.setIfInBounds_toArray, List.set_cons_zero, List.set_cons_succ]
          refine wpAnyK_takeTo 2 (some 52) (.bool false) [3, 4, 5, 6, 7, 8, 9, 10, 11, 12, 13, 14, 15, 16, 17, 18, 19, 20, 21, 22, 23, 24, 25, 26, 27, 28, 29, 30, 31, 32, 33, 34, 35, 36, 37, 38, 39, 40, 41, 42, 43, 44, 45, 46, 47, 48, 49, 50, 51] rfl rfl (by kernel_rfl) (by kernel_rfl) (by kernel_rfl) (by kernel_rfl) (fun _ _ _ h => h) hS (Or.inl ⟨rfl, fun w1 hw1 => by obtain ⟨⟨q1, q2, q3⟩, q4⟩ := hw1; rw [HPID.out] at q3; go_simp⟩) ?_
          simp only [Act.put, List.setIfInBounds_toArray, List.set_cons_zero, List.set_cons_succ]
          refine wpAnyK_takeTo 3 (some 53) (.pointer (some ⟨gx, 1, none⟩)) [4, 6, 7, 8, 9, 10, 11, 12, 13, 14, 15, 16, 17, 18, 19, 20, 21, 22, 23, 24, 25, 26, 27, 28, 29, 30, 31, 32, 33, 34, 35, 36, 37, 38, 39, 40, 41, 42, 43, 44, 45, 46, 47, 48, 49, 50, 51] rfl rfl (by kernel_rfl) (by kernel_rfl) (by kernel_rfl) (by kernel_rfl) (fun _ _ _ h => h) hS (Or.inl ⟨rfl, fun w1 hw1 => by obtain ⟨⟨q1, q2, q3⟩, q4⟩ := hw1; rw [HPID.out] at q3; go_simp⟩) ?_
          simp only [Act.put, List.setIfInBounds_toArray, List.set_cons_zero, List.set_cons_succ]
          refine wpAnyK_takeTo 4 (some 54) (.int .i64 p.y) [6, 7, 8, 9, 10, 11, 12, 13, 14, 15, 16, 17, 18, 19, 20, 21, 22, 23, 24, 25, 26, 27, 28, 29, 30, 31, 32, 33, 34, 35, 36, 37, 38, 39, 40, 41, 42, 43, 44, 45, 46, 47, 48, 49, 50, 51] rfl rfl (by kernel_rfl) (by kernel_rfl) (by kernel_rfl) (by kernel_rfl) (fun _ _ _ h => h) hS (Or.inl ⟨rfl, fun w1 hw1 => by obtain ⟨⟨q1, q2, q3⟩, q4⟩ := hw1; rw [HPID.out] at q3; go_simp⟩) ?_
          simp only [Act.put, List.setIfInBounds_toArray, List.set_cons_zero, List.set_cons_succ]
          refine wpAnyK_takeTo 5 (some 55) (.int .i64 la) [6, 7, 8, 9, 10, 11, 12, 13, 14, 15, 16, 17, 18, 19, 20, 21, 22, 23, 24, 25, 26, 27, 28, 29, 30, 31, 32, 33, 34, 35, 36, 37, 38, 39, 40, 41, 42, 43, 44, 45, 46, 47, 48, 49, 50, 51] rfl rfl (by kernel_rfl) (by kernel_rfl) (by kernel_rfl) (by kernel_rfl) (fun _ _ _ h => h) hS (Or.inl ⟨rfl, fun w1 hw1 => by obtain ⟨⟨q1, q2, q3⟩, q4⟩ := hw1; rw [HPID.out] at q3; go_simp⟩) ?_
          simp only [Act.put, List.setIfInBounds_toArray, List.set_cons_zero, List.set_cons_succ]
          refine wpAnyK_takeTo 6 (some 56) (.bool false) [7, 8, 9, 10, 11, 12, 13, 14, 15, 16, 17, 18, 19, 20, 21, 22, 23, 24, 25, 26, 27, 28, 29, 30, 31, 32, 33, 34, 35, 36, 37, 38, 39, 40, 41, 42, 43, 44, 45, 46, 47, 48, 49, 50, 51] rfl rfl (by kernel_rfl) (by kernel_rfl) (by kernel_rfl) (by kernel_rfl) (fun _ _ _ h => h) hS (Or.inl ⟨rfl, fun w1 hw1 => by obtain ⟨⟨q1, q2, q3⟩, q4⟩ := hw1; rw [HPID.out] at q3; go_simp⟩) ?_
          simp only [Act.put, List.setIfInBounds_toArray, List.set_cons_zero, List.set_cons_succ]
          refine wpAnyK_takeTo 7 (some 57) (.bool false) [8, 9, 10, 11, 12, 13, 14, 15, 16, 17, 18, 19, 20, 21, 22, 23, 24, 25, 26, 27, 28, 29, 30, 31, 32, 33, 34, 35, 36, 37, 38, 39, 40, 41, 42, 43, 44, 45, 46, 47, 48, 49, 50, 51] rfl rfl (by kernel_rfl) (by kernel_rfl) (by kernel_rfl) (by kernel_rfl) (fun _ _ _ h => h) hS (Or.inl ⟨rfl, fun w1 hw1 => by obtain ⟨⟨q1, q2, q3⟩, q4⟩ := hw1; rw [HPID.out] at q3; go_simp⟩) ?_
          simp only [Act.put, List.setIfInBounds_toArray, List.set_cons_zero, List.set_cons_succ]
          refine wpAnyK_takeTo 8 (some 58) (.bool false) [9, 10, 11, 12, 13, 14, 15, 16, 17, 18, 19, 20, 21, 22, 23, 24, 25, 26, 27, 28, 29, 30, 31, 32, 33, 34, 35, 36, 37, 38, 39, 40, 41, 42, 43, 44, 45, 46, 47, 48, 49, 50, 51] rfl rfl (by kernel_rfl) (by kernel_rfl) (by kernel_rfl) (by kernel_rfl) (fun _ _ _ h => h) hS (Or.inl ⟨rfl, fun w1 hw1 => by obtain ⟨⟨q1, q2, q3⟩, q4⟩ := hw1; rw [HPID.out] at q3; go_simp⟩) ?_
          simp only [Act.put, List.setIfInBounds_toArray, List.set_cons_zero, List.set_cons_succ]
          refine wpAnyK_takeTo 9 (some 59) (.pointer (some ⟨gx, 2, none⟩)) [10, 11, 12, 13, 14, 15, 16, 17, 18, 19, 20, 21, 22, 23, 24, 25, 26, 27, 28, 29, 30, 31, 32, 33, 34, 35, 36, 37, 38, 39, 40, 41, 42, 43, 44, 45, 46, 47, 48, 49, 50, 51] rfl rfl (by kernel_rfl) (by kernel_rfl) (by kernel_rfl) (by kernel_rfl) (fun _ _ _ h => h) hS (Or.inl ⟨rfl, fun w1 hw1 => by obtain ⟨⟨q1, q2, q3⟩, q4⟩ := hw1; rw [HPID.out] at q3; go_simp⟩) ?_
          simp only [Act.put, List.setIfInBounds_toArray, List.set_cons_zero, List.set_cons_succ]
          refine wpAnyK_takeTo 10 (some 60) (.int .i64 (i : Int)) [11, 12, 13, 14, 15, 16, 17, 18, 19, 20, 21, 22, 23, 24, 25, 26, 27, 28, 29, 30, 31, 32, 33, 34, 35, 36, 37, 38, 39, 40, 41, 42, 43, 44, 45, 46, 47, 48, 49, 50, 51] rfl rfl (by kernel_rfl) (by kernel_rfl) (by kernel_rfl) (by kernel_rfl) (fun _ _ _ h => h) hS (Or.inl ⟨rfl, fun w1 hw1 => by obtain ⟨⟨q1, q2, q3⟩, q4⟩ := hw1; rw [HPID.out] at q3; go_simp⟩) ?_
          simp only [Act.put, List.setIfInBounds_toArray, List.set_cons_zero, List.set_cons_succ]
          refine wpAnyK_takeTo 11 (some 61) (.bool false) [12, 13, 14, 15, 16, 17, 18, 19, 20, 21, 22, 23, 24, 25, 26, 27, 28, 29, 30, 31, 32, 33, 34, 35, 36, 37, 38, 39, 40, 41, 42, 43, 44, 45, 46, 47, 48, 49, 50, 51] rfl rfl (by kernel_rfl) (by kernel_rfl) (by kernel_rfl) (by kernel_rfl) (fun _ _ _ h => h) hS (Or.inl ⟨rfl, fun w1 hw1 => by obtain ⟨⟨q1, q2, q3⟩, q4⟩ := hw1; rw [HPID.out] at q3; go_simp⟩) ?_
          simp only [Act.put, List.setIfInBounds_toArray, List.set_cons_zero, List.set_cons_succ]
          refine wpAnyK_takeTo 12 (some 62) (.bool false) [13, 14, 15, 16, 17, 18, 19, 20, 21, 22, 23, 24, 25, 26, 27, 28, 29, 30, 31, 32, 33, 34, 35, 36, 37, 38, 39, 40, 41, 42, 43, 44, 45, 46, 47, 48, 49, 50, 51] rfl rfl (by kernel_rfl) (by kernel_rfl) (by kernel_rfl) (by kernel_rfl) (fun _ _ _ h => h) hS (Or.inl ⟨rfl, fun w1 hw1 => by obtain ⟨⟨q1, q2, q3⟩, q4⟩ := hw1; rw [HPID.out] at q3; go_simp⟩) ?_
          simp only [Act.put, List.setIfInBounds_toArray, List.set_cons_zero, List.set_cons_succ]
          refine wpAnyK_takeTo 13 (some 63) (.bool false) [14, 15, 16, 17, 18, 19, 20, 21, 22, 23, 24, 25, 26, 27, 28, 29, 30, 31, 32, 33, 34, 35, 36, 37, 38, 39, 40, 41, 42, 43, 44, 45, 46, 47, 48, 49, 50, 51] rfl rfl (by kernel_rfl) (by kernel_rfl) (by kernel_rfl) (by kernel_rfl) (fun _ _ _ h => h) hS (Or.inl ⟨rfl, fun w1 hw1 => by obtain ⟨⟨q1, q2, q3⟩, q4⟩ := hw1; rw [HPID.out] at q3; go_simp⟩) ?_
          simp only [Act.put, List.setIfInBounds_toArray, List.set_cons_zero, List.set_cons_succ]
          refine wpAnyK_takeTo 14 (some 64) (.pointer (some ⟨gx, 2, none⟩)) [15, 18, 19, 20, 21, 22, 23, 24, 25, 26, 27, 28, 29, 30, 31, 32, 33, 34, 35, 36, 37, 38, 39, 40, 41, 42, 43, 44, 45, 46, 47, 48, 49, 50, 51] rfl rfl (by kernel_rfl) (by kernel_rfl) (by kernel_rfl) (by kernel_rfl) (fun _ _ _ h => h) hS (Or.inl ⟨rfl, fun w1 hw1 => by obtain ⟨⟨q1, q2, q3⟩, q4⟩ := hw1; rw [HPID.out] at q3; go_simp⟩) ?_
          simp only [Act.put, List.setIfInBounds_toArray, List.set_cons_zero, List.set_cons_succ]
          refine wpAnyK_takeTo 15 (some 65) (.int .i64 (i : Int)) [18, 19, 20, 21, 22, 23, 24, 25, 26, 27, 28, 29, 30, 31, 32, 33, 34, 35, 36, 37, 38, 39, 40, 41, 42, 43, 44, 45, 46, 47, 48, 49, 50, 51] rfl rfl (by kernel_rfl) (by kernel_rfl) (by kernel_rfl) (by kernel_rfl) (fun _ _ _ h => h) hS (Or.inl ⟨rfl, fun w1 hw1 => by obtain ⟨⟨q1, q2, q3⟩, q4⟩ := hw1; rw [HPID.out] at q3; go_simp⟩) ?_
          simp only [Act.put, List.setIfInBounds_toArray, List.set_cons_zero, List.set_cons_succ]
          refine wpAnyK_takeTo 16 (some 66) (.slice (some ⟨g, off, none⟩) n c) [17, 18, 19, 20, 21, 22, 23, 24, 25, 26, 27, 28, 29, 30, 31, 32, 33, 34, 35, 36, 37, 38, 39, 40, 41, 42, 43, 44, 45, 46, 47, 48, 49, 50, 51] rfl rfl (by kernel_rfl) (by kernel_rfl) (by kernel_rfl) (by kernel_rfl) (fun _ _ _ h => h) hS (Or.inl ⟨rfl, fun w1 hw1 => by obtain ⟨⟨q1, q2, q3⟩, q4⟩ := hw1; rw [HPID.out] at q3; go_simp⟩) ?_
          simp only [Act.put, List.setIfInBounds_toArray, List.set_cons_zero, List.set_cons_succ]
          refine wpAnyK_takeTo 17 (some 67) (.int .i64 (n : Int)) [18, 19, 20, 21, 22, 23, 24, 25, 26, 27, 28, 29, 30, 31, 32, 33, 34, 35, 36, 37, 38, 39, 40, 41, 42, 43, 44, 45, 46, 47, 48, 49, 50, 51] rfl rfl (by kernel_rfl) (by kernel_rfl) (by kernel_rfl) (by kernel_rfl) (fun _ _ _ h => h) hS (Or.inl ⟨rfl, fun w1 hw1 => by obtain ⟨⟨q1, q2, q3⟩, q4⟩ := hw1; rw [HPID.out] at q3; go_simp⟩) ?_
          simp only [Act.put, List.setIfInBounds_toArray, List.set_cons_zero, List.set_cons_succ]
          refine wpAnyK_takeTo 18 (some 68) (.bool false) [19, 20, 21, 22, 23, 24, 25, 26, 27, 28, 29, 30, 31, 32, 33, 34, 35, 36, 37, 38, 39, 40, 41, 42, 43, 44, 45, 46, 47, 48, 49, 50, 51] rfl rfl (by kernel_rfl) (by kernel_rfl) (by kernel_rfl) (by kernel_rfl) (fun _ _ _ h => h) hS (Or.inl ⟨rfl, fun w1 hw1 => by obtain ⟨⟨q1, q2, q3⟩, q4⟩ := hw1; rw [HPID.out] at q3; go_simp⟩) ?_
          simp only [Act.put, List.setIfInBounds_toArray, List.set_cons_zero, List.set_cons_succ]
          refine wpAnyK_takeTo 19 (some 69) (.bool false) [20, 21, 22, 23, 24, 25, 26, 27, 28, 29, 30, 31, 32, 33, 34, 35, 36, 37, 38, 39, 40, 41, 42, 43, 44, 45, 46, 47, 48, 49, 50, 51] rfl rfl (by kernel_rfl) (by kernel_rfl) (by kernel_rfl) (by kernel_rfl) (fun _ _ _ h => h) hS (Or.inl ⟨rfl, fun w1 hw1 => by obtain ⟨⟨q1, q2, q3⟩, q4⟩ := hw1; rw [HPID.out] at q3; go_simp⟩) ?_
          simp only [Act.put, List.setIfInBounds_toArray, List.set_cons_zero, List.set_cons_succ]
          refine wpAnyK_takeTo 20 (some 70) (.bool false) [21, 22, 23, 24, 25, 26, 27, 28, 29, 30, 31, 32, 33, 34, 35, 36, 37, 38, 39, 40, 41, 42, 43, 44, 45, 46, 47, 48, 49, 50, 51] rfl rfl (by kernel_rfl) (by kernel_rfl) (by kernel_rfl) (by kernel_rfl) (fun _ _ _ h => h) hS (Or.inl ⟨rfl, fun w1 hw1 => by obtain ⟨⟨q1, q2, q3⟩, q4⟩ := hw1; rw [HPID.out] at q3; go_simp⟩) ?_
          simp only [Act.put, List.setIfInBounds_toArray, List.set_cons_zero, List.set_cons_succ]
          refine wpAnyK_takeTo 21 (some 71) (.slice (some ⟨g, off, none⟩) n c) [24, 25, 26, 29, 30, 31, 32, 33, 34, 35, 36, 37, 38, 39, 40, 41, 42, 43, 44, 45, 46, 47, 48, 49, 50, 51] rfl rfl (by kernel_rfl) (by kernel_rfl) (by kernel_rfl) (by kernel_rfl) (fun _ _ _ h => h) hS (Or.inl ⟨rfl, fun w1 hw1 => by obtain ⟨⟨q1, q2, q3⟩, q4⟩ := hw1; rw [HPID.out] at q3; go_simp⟩) ?_
          simp only [Act.put, List.setIfInBounds_toArray, List.set_cons_zero, List.set_cons_succ]
          refine wpAnyK_takeTo 22 (some 72) (.pointer (some ⟨gx, 2, none⟩)) [23, 24, 25, 26, 29, 30, 31, 32, 33, 34, 35, 36, 37, 38, 39, 40, 41, 42, 43, 44, 45, 46, 47, 48, 49, 50, 51] rfl rfl (by kernel_rfl) (by kernel_rfl) (by kernel_rfl) (by kernel_rfl) (fun _ _ _ h => h) hS (Or.inl ⟨rfl, fun w1 hw1 => by obtain ⟨⟨q1, q2, q3⟩, q4⟩ := hw1; rw [HPID.out] at q3; go_simp⟩) ?_
          simp only [Act.put, List.setIfInBounds_toArray, List.set_cons_zero, List.set_cons_succ]
          refine wpAnyK_takeTo 23 (some 73) (.int .i64 (i : Int)) [24, 25, 26, 29, 30, 31, 32, 33, 34, 35, 36, 37, 38, 39, 40, 41, 42, 43, 44, 45, 46, 47, 48, 49, 50, 51] rfl rfl (by kernel_rfl) (by kernel_rfl) (by kernel_rfl) (by kernel_rfl) (fun _ _ _ h => h) hS (Or.inl ⟨rfl, fun w1 hw1 => by obtain ⟨⟨q1, q2, q3⟩, q4⟩ := hw1; rw [HPID.out] at q3; go_simp⟩) ?_
          simp only [Act.put, List.setIfInBounds_toArray, List.set_cons_zero, List.set_cons_succ]
          refine wpAnyK_takeTo 24 (some 74) (.pointer (some ⟨g, off + i * 2, none⟩)) [25, 26, 29, 30, 31, 32, 33, 34, 35, 36, 37, 38, 39, 40, 41, 42, 43, 44, 45, 46, 47, 48, 49, 50, 51] rfl rfl (by kernel_rfl) (by kernel_rfl) (by kernel_rfl) (by kernel_rfl) (fun _ _ _ h => h) hS (Or.inl ⟨rfl, fun w1 hw1 => by obtain ⟨⟨q1, q2, q3⟩, q4⟩ := hw1; rw [HPID.out] at q3; go_simp⟩) ?_
          simp only [Act.put, List.setIfInBounds_toArray, List.set_cons_zero, List.set_cons_succ]
          refine wpAnyK_takeTo 25 (some 75) (.pointer (some ⟨g, off + i * 2 + 1, none⟩)) [26, 29, 30, 31, 32, 33, 34, 35, 36, 37, 38, 39, 40, 41, 42, 43, 44, 45, 46, 47, 48, 49, 50, 51] rfl rfl (by kernel_rfl) (by kernel_rfl) (by kernel_rfl) (by kernel_rfl) (fun _ _ _ h => h) hS (Or.inl ⟨rfl, fun w1 hw1 => by obtain ⟨⟨q1, q2, q3⟩, q4⟩ := hw1; rw [HPID.out] at q3; go_simp⟩) ?_
          simp only [Act.put, List.setIfInBounds_toArray, List.set_cons_zero, List.set_cons_succ]
          refine wpAnyK_takeTo 26 (some 76) (.int .i64 p.y) [29, 30, 31, 32, 33, 34, 35, 36, 37, 38, 39, 40, 41, 42, 43, 44, 45, 46, 47, 48, 49, 50, 51] rfl rfl (by kernel_rfl) (by kernel_rfl) (by kernel_rfl) (by kernel_rfl) (fun _ _ _ h => h) hS (Or.inl ⟨rfl, fun w1 hw1 => by obtain ⟨⟨q1, q2, q3⟩, q4⟩ := hw1; rw [HPID.out] at q3; go_simp⟩) ?_
          simp only [Act.put, List.setIfInBounds_toArray, List.set_cons_zero, List.set_cons_succ]
          refine wpAnyK_takeTo 27 (some 77) (.pointer (some ⟨gx, 1, none⟩)) [28, 29, 30, 31, 32, 33, 34, 35, 36, 37, 38, 39, 40, 41, 42, 43, 44, 45, 46, 47, 48, 49, 50, 51] rfl rfl (by kernel_rfl) (by kernel_rfl) (by kernel_rfl) (by kernel_rfl) (fun _ _ _ h => h) hS (Or.inl ⟨rfl, fun w1 hw1 => by obtain ⟨⟨q1, q2, q3⟩, q4⟩ := hw1; rw [HPID.out] at q3; go_simp⟩) ?_
          simp only [Act.put, List.setIfInBounds_toArray, List.set_cons_zero, List.set_cons_succ]
          refine wpAnyK_takeTo 28 (some 78) (.int .i64 p.y) [29, 30, 31, 32, 33, 34, 35, 36, 37, 38, 39, 40, 41, 42, 43, 44, 45, 46, 47, 48, 49, 50, 51] rfl rfl (by kernel_rfl) (by kernel_rfl) (by kernel_rfl) (by kernel_rfl) (fun _ _ _ h => h) hS (Or.inl ⟨rfl, fun w1 hw1 => by obtain ⟨⟨q1, q2, q3⟩, q4⟩ := hw1; rw [HPID.out] at q3; go_simp⟩) ?_
          simp only [Act.put, List.setIfInBounds_toArray, List.set_cons_zero, List.set_cons_succ]
          refine wpAnyK_takeTo 29 (some 79) (.bool false) [30, 31, 32, 33, 34, 35, 36, 37, 38, 39, 40, 41, 42, 43, 44, 45, 46, 47, 48, 49, 50, 51] rfl rfl (by kernel_rfl) (by kernel_rfl) (by kernel_rfl) (by kernel_rfl) (fun _ _ _ h => h) hS (Or.inl ⟨rfl, fun w1 hw1 => by obtain ⟨⟨q1, q2, q3⟩, q4⟩ := hw1; rw [HPID.out] at q3; go_simp⟩) ?_
          simp only [Act.put, List.setIfInBounds_toArray, List.set_cons_zero, List.set_cons_succ]
          refine wpAnyK_takeTo 30 (some 80) (.bool false) [31, 32, 33, 34, 35, 36, 37, 38, 39, 40, 41, 42, 43, 44, 45, 46, 47, 48, 49, 50, 51] rfl rfl (by kernel_rfl) (by kernel_rfl) (by kernel_rfl) (by kernel_rfl) (fun _ _ _ h => h) hS (Or.inl ⟨rfl, fun w1 hw1 => by obtain ⟨⟨q1, q2, q3⟩, q4⟩ := hw1; rw [HPID.out] at q3; go_simp⟩) ?_
          simp only [Act.put, List.setIfInBounds_toArray, List.set_cons_zero, List.set_cons_succ]
          refine wpAnyK_takeTo 31 (some 81) (.bool false) [32, 33, 34, 35, 36, 37, 38, 39, 40, 41, 42, 43, 44, 45, 46, 47, 48, 49, 50, 51] rfl rfl (by kernel_rfl) (by kernel_rfl) (by kernel_rfl) (by kernel_rfl) (fun _ _ _ h => h) hS (Or.inl ⟨rfl, fun w1 hw1 => by obtain ⟨⟨q1, q2, q3⟩, q4⟩ := hw1; rw [HPID.out] at q3; go_simp⟩) ?_
          simp only [Act.put, List.setIfInBounds_toArray, List.set_cons_zero, List.set_cons_succ]
          refine wpAnyK_takeTo 32 (some 82) (.pointer (some ⟨gt, 0, none⟩)) [35, 36, 37, 38, 39, 40, 41, 42, 43, 44, 45, 46, 47, 48, 49, 50, 51] rfl rfl (by kernel_rfl) (by kernel_rfl) (by kernel_rfl) (by kernel_rfl) (fun _ _ _ h => h) hS (Or.inl ⟨rfl, fun w1 hw1 => by obtain ⟨⟨q1, q2, q3⟩, q4⟩ := hw1; rw [HPID.out] at q3; go_simp⟩) ?_
          simp only [Act.put, List.setIfInBounds_toArray, List.set_cons_zero, List.set_cons_succ]
          refine wpAnyK_takeTo 33 (some 83) (.pointer (some ⟨gx, 2, none⟩)) [34, 35, 36, 37, 38, 39, 40, 41, 42, 43, 44, 45, 46, 47, 48, 49, 50, 51] rfl rfl (by kernel_rfl) (by kernel_rfl) (by kernel_rfl) (by kernel_rfl) (fun _ _ _ h => h) hS (Or.inl ⟨rfl, fun w1 hw1 => by obtain ⟨⟨q1, q2, q3⟩, q4⟩ := hw1; rw [HPID.out] at q3; go_simp⟩) ?_
          simp only [Act.put, List.setIfInBounds_toArray, List.set_cons_zero, List.set_cons_succ]
          refine wpAnyK_takeTo 34 (some 84) (.int .i64 (i : Int)) [35, 36, 37, 38, 39, 40, 41, 42, 43, 44, 45, 46, 47, 48, 49, 50, 51] rfl rfl (by kernel_rfl) (by kernel_rfl) (by kernel_rfl) (by kernel_rfl) (fun _ _ _ h => h) hS (Or.inl ⟨rfl, fun w1 hw1 => by obtain ⟨⟨q1, q2, q3⟩, q4⟩ := hw1; rw [HPID.out] at q3; go_simp⟩) ?_
          simp only [Act.put, List.setIfInBounds_toArray, List.set_cons_zero, List.set_cons_succ]
          refine wpAnyK_one (i := 35) (by kernel_rfl) rfl rfl ?_
          refine wp_call_to (some 85) rfl 15 #[.pointer (some ⟨gt, 0, none⟩), .int .i64 (i : Int)] (by go_simp) HCU.out ?_
          rintro e U2 ⟨rfl, ⟨M', hpM, hT2⟩, hbx2⟩
          have HT2 := hide hT2
          have hS2 : (fun U : World => PtAt U gx 0 p ∧ U.cell? ⟨g, off + i * 2 + 1, none⟩ = some (.int .i64 p.y)) U2 := ⟨HBB.out _ hbx2, HC1.out _ (by obtain ⟨_, _, _, h, _⟩ := hT2; exact h)⟩
          refine ⟨_, rfl, fun _ => hS2, ?_⟩
          simp only [Act.put, List.setIfInBounds_toArray, List.set_cons_zero, List.set_cons_succ]
          have HNO : Hid (∀ q ∈ M', q.id ≠ (i : Int)) := hide (fun q hq e => by
            obtain ⟨_, hT2', _⟩ := HTV.out
            obtain ⟨gm, ra, t, S, _, _, _, _, _, h6, _⟩ := hT2'
            have := (List.pairwise_cons.1 (Ids.perm (L := M) h6 hpM.symm)).1 q hq
            exact this (by rw [HPID.out, e]))
          have HLM : Hid (M'.length + 1 = m) := hide (by have := hpM.length_eq; rw [List.length_cons, HLE.out] at this; exact this)
          have hm1 : (m : Int) - 1 = (M'.length : Int) := by have := HLM.out; omega
          have hwr : IntKind.i64.wrap (M'.length : Int) = (M'.length : Int) := wrap_i64_fit _ (by omega) (by have := HLM.out; omega)
          have HPM2 := hide hpM
          clear hS HCU hT2 hbx2 hpM
          have hS := hS2
          clear hS2
          refine wpAnyK_takeTo 36 (some 86) (.bool false) [37, 38, 39, 40, 41, 42, 43, 44, 45, 46, 47, 48, 49, 50, 51] rfl rfl (by kernel_rfl) (by kernel_rfl) (by kernel_rfl) (by kernel_rfl) (fun _ _ _ h => h) hS (Or.inl ⟨rfl, fun w1 hw1 => by obtain ⟨⟨q1, q2, q3⟩, q4⟩ := hw1; rw [HPID.out] at q3; go_simp⟩) ?_
          simp only [Act.put, List.setIfInBounds_toArray, List.set_cons_zero, List.set_cons_succ]
          refine wpAnyK_takeTo 37 (some 87) (.bool false) [38, 39, 40, 41, 42, 43, 44, 45, 46, 47, 48, 49, 50, 51] rfl rfl (by kernel_rfl) (by kernel_rfl) (by kernel_rfl) (by kernel_rfl) (fun _ _ _ h => h) hS (Or.inl ⟨rfl, fun w1 hw1 => by obtain ⟨⟨q1, q2, q3⟩, q4⟩ := hw1; rw [HPID.out] at q3; go_simp⟩) ?_
          simp only [Act.put, List.setIfInBounds_toArray, List.set_cons_zero, List.set_cons_succ]
          refine wpAnyK_takeTo 38 (some 88) (.bool false) [39, 40, 41, 42, 43, 44, 45, 46, 47, 48, 49, 50, 51] rfl rfl (by kernel_rfl) (by kernel_rfl) (by kernel_rfl) (by kernel_rfl) (fun _ _ _ h => h) hS (Or.inl ⟨rfl, fun w1 hw1 => by obtain ⟨⟨q1, q2, q3⟩, q4⟩ := hw1; rw [HPID.out] at q3; go_simp⟩) ?_
          simp only [Act.put, List.setIfInBounds_toArray, List.set_cons_zero, List.set_cons_succ]
          refine wpAnyK_takeTo 39 (some 89) (.pointer (some ⟨gt, 0, none⟩)) [42, 43, 44, 45, 46, 47, 48, 49, 50, 51] rfl rfl (by kernel_rfl) (by kernel_rfl) (by kernel_rfl) (by kernel_rfl) (fun _ _ _ h => h) hS (Or.inl ⟨rfl, fun w1 hw1 => by obtain ⟨⟨q1, q2, q3⟩, q4⟩ := hw1; rw [HPID.out] at q3; go_simp⟩) ?_
          simp only [Act.put, List.setIfInBounds_toArray, List.set_cons_zero, List.set_cons_succ]
          refine wpAnyK_takeTo 40 (some 90) (.pointer (some ⟨gx, 2, none⟩)) [41, 42, 43, 44, 45, 46, 47, 48, 49, 50, 51] rfl rfl (by kernel_rfl) (by kernel_rfl) (by kernel_rfl) (by kernel_rfl) (fun _ _ _ h => h) hS (Or.inl ⟨rfl, fun w1 hw1 => by obtain ⟨⟨q1, q2, q3⟩, q4⟩ := hw1; rw [HPID.out] at q3; go_simp⟩) ?_
          simp only [Act.put, List.setIfInBounds_toArray, List.set_cons_zero, List.set_cons_succ]
          refine wpAnyK_takeTo 41 (some 91) (.int .i64 (i : Int)) [42, 43, 44, 45, 46, 47, 48, 49, 50, 51] rfl rfl (by kernel_rfl) (by kernel_rfl) (by kernel_rfl) (by kernel_rfl) (fun _ _ _ h => h) hS (Or.inl ⟨rfl, fun w1 hw1 => by obtain ⟨⟨q1, q2, q3⟩, q4⟩ := hw1; rw [HPID.out] at q3; go_simp⟩) ?_
          simp only [Act.put, List.setIfInBounds_toArray, List.set_cons_zero, List.set_cons_succ]
          refine wpAnyK_one (i := 42) (by kernel_rfl) rfl rfl ?_
          refine wp_call_to (some 92) rfl 15 #[.pointer (some ⟨gt, 0, none⟩), .int .i64 (i : Int)] (by go_simp) (HT2.out.cutNo (i : Int) (by constructor <;> omega) HNO.out) ?_
          rintro e U3 ⟨rfl, rfl⟩
          refine ⟨_, rfl, fun _ => hS, ?_⟩
          simp only [Act.put, List.setIfInBounds_toArray, List.set_cons_zero, List.set_cons_succ]
          refine wpAnyK_takeTo 43 (some 93) (.bool false) [44, 45, 46, 47, 48, 49, 50, 51] rfl rfl (by kernel_rfl) (by kernel_rfl) (by kernel_rfl) (by kernel_rfl) (fun _ _ _ h => h) hS (Or.inl ⟨rfl, fun w1 hw1 => by obtain ⟨⟨q1, q2, q3⟩, q4⟩ := hw1; rw [HPID.out] at q3; go_simp⟩) ?_
          simp only [Act.put, List.setIfInBounds_toArray, List.set_cons_zero, List.set_cons_succ]
          refine wpAnyK_takeTo 44 (some 94) (.bool false) [45, 46, 47, 48, 49, 50, 51] rfl rfl (by kernel_rfl) (by kernel_rfl) (by kernel_rfl) (by kernel_rfl) (fun _ _ _ h => h) hS (Or.inl ⟨rfl, fun w1 hw1 => by obtain ⟨⟨q1, q2, q3⟩, q4⟩ := hw1; rw [HPID.out] at q3; go_simp⟩) ?_
          simp only [Act.put, List.setIfInBounds_toArray, List.set_cons_zero, List.set_cons_succ]
          refine wpAnyK_takeTo 45 (some 95) (.bool false) [46, 47, 48, 49, 50, 51] rfl rfl (by kernel_rfl) (by kernel_rfl) (by kernel_rfl) (by kernel_rfl) (fun _ _ _ h => h) hS (Or.inl ⟨rfl, fun w1 hw1 => by obtain ⟨⟨q1, q2, q3⟩, q4⟩ := hw1; rw [HPID.out] at q3; go_simp⟩) ?_
          simp only [Act.put, List.setIfInBounds_toArray, List.set_cons_zero, List.set_cons_succ]
          refine wpAnyK_takeTo 46 (some 96) (.pointer (some ⟨gt, 0, none⟩)) [47, 50, 51] rfl rfl (by kernel_rfl) (by kernel_rfl) (by kernel_rfl) (by kernel_rfl) (fun _ _ _ h => h) hS (Or.inl ⟨rfl, fun w1 hw1 => by obtain ⟨⟨q1, q2, q3⟩, q4⟩ := hw1; rw [HPID.out] at q3; go_simp⟩) ?_
          simp only [Act.put, List.setIfInBounds_toArray, List.set_cons_zero, List.set_cons_succ]
          refine wpAnyK_takeTo 48 (some 98) (.int .i64 (m : Int)) [49, 50, 51] rfl rfl (by kernel_rfl) (by kernel_rfl) (by kernel_rfl) (by kernel_rfl) (fun _ _ _ h => h) hS (Or.inl ⟨rfl, fun w1 hw1 => by obtain ⟨⟨q1, q2, q3⟩, q4⟩ := hw1; rw [HPID.out] at q3; go_simp⟩) ?_
          simp only [Act.put, List.setIfInBounds_toArray, List.set_cons_zero, List.set_cons_succ]
          refine wpAnyK_takeTo 49 (some 99) (.int .i64 (M'.length : Int)) [50, 51] rfl rfl (by kernel_rfl) (by kernel_rfl) (by kernel_rfl) (by kernel_rfl) (fun _ _ _ h => h) hS (Or.inl ⟨rfl, fun w1 hw1 => by obtain ⟨⟨q1, q2, q3⟩, q4⟩ := hw1; rw [HPID.out] at q3; go_simp⟩) ?_
          simp only [Act.put, List.setIfInBounds_toArray, List.set_cons_zero, List.set_cons_succ]
          refine wpAnyK_one (i := 47) (by kernel_rfl) rfl rfl ?_
          refine wp_call_to (some 97) rfl 10 #[.pointer (some ⟨gt, 0, none⟩)] (by go_simp) HT2.out.len ?_
          rintro e U4 ⟨rfl, rfl⟩
          refine ⟨_, rfl, fun _ => hS, ?_⟩
          simp only [Act.put, List.setIfInBounds_toArray, List.set_cons_zero, List.set_cons_succ]
          refine wpAnyK_takeTo 50 (some 100) (.bool false) [51] rfl rfl (by kernel_rfl) (by kernel_rfl) (by kernel_rfl) (by kernel_rfl) (fun _ _ _ h => h) hS (Or.inl ⟨rfl, fun w1 hw1 => by obtain ⟨⟨q1, q2, q3⟩, q4⟩ := hw1; rw [HPID.out] at q3; go_simp⟩) ?_
          simp only [Act.put, List.setIfInBounds_toArray, List.set_cons_zero, List.set_cons_succ]
          refine wpAnyK_takeTo 51 (some 101) (.bool false) [] rfl rfl (by kernel_rfl) (by kernel_rfl) (by kernel_rfl) (by kernel_rfl) (fun _ _ _ h => h) hS (Or.inl ⟨rfl, fun w1 hw1 => by obtain ⟨⟨q1, q2, q3⟩, q4⟩ := hw1; rw [HPID.out] at q3; go_simp⟩) ?_
          simp only [Act.put, List.setIfInBounds_toArray, List.set_cons_zero, List.set_cons_succ]
          refine wpAnyK_done (by kernel_rfl) ?_ _
          obtain ⟨⟨x0, x1, x2⟩, _⟩ := hS
          have HAL2 : Hid (∀ q ∈ M', q.y ≤ p.y ∧ q ∈ ptsN L n) := hide (fun q hq => by
            have hqM : q ∈ M := HPM2.out.mem_iff.1 (List.mem_cons_of_mem _ hq)
            refine ⟨?_, (HAL.out q hqM).2⟩
            have := HPA.out q hqM
            unfold aboveP at this
            omega)
          go_wp2
          go_roundw
          case rel => exact ⟨M'.length, p.y, M', by have := HLM.out; omega, rfl, rfl, HT2.out, rfl, HAL2.out⟩
          case measure => have := HLM.out; simp [intOf]; omega
end Go.Proofs.Ytklnaeldhdhmiaa
