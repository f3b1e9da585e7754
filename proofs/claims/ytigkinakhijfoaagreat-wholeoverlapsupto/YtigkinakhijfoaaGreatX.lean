/- enrich: a poor kid gets a key more. -/
import Derived.Test.YtigkinakhijfoaaGreatWc
namespace Go.Proofs.YtigkinakhijfoaaGreat
open Go.RowKit
set_option maxRecDepth 100000
set_option linter.unusedVariables false
set_option linter.unusedSimpArgs false

theorem place_one {L : List It} {s : ByteArray} {j : Nat} (hj : j ≤ L.length) (h1 : ∀ k x, k < j → L[k]? = some x → kc x.key s < 0) (h2 : ∀ x, L[j]? = some x → 0 ≤ kc x.key s) : ∀ i b, FindP L s i b → i = j := by
  intro i b hf
  rcases Nat.lt_trichotomy i j with h | h | h
  · have hv := List.getElem?_eq_getElem (show i < L.length by omega)
    have a := h1 i _ h hv
    have b := hf.2.2.1 i _ (Nat.le_refl _) hv
    omega
  · exact h
  · have hv := List.getElem?_eq_getElem (show j < L.length by have := hf.1; omega)
    have a := hf.2.1 j _ h hv
    have b := h2 _ hv
    omega
/-- A key between two kids. -/
theorem node_between {ks : List Kd} {L : List It} (hl : ks.length = L.length + 1) {i : Nat} {e e2 : Kd} {x : It} (hi : ks[i]? = some e) (hi2 : ks[i + 1]? = some e2) (hx : L[i]? = some x) (hs : Srt (weave (ks.map Kd.F) L)) : (∀ y ∈ e.F, kc y.key x.key < 0) ∧ ∀ y ∈ e2.F, kc x.key y.key < 0 := by
  have h1 := (node_split hl hi).1
  have hd : L.drop i = x :: L.drop (i + 1) := by
    obtain ⟨hv, he⟩ := List.getElem?_eq_some_iff.1 hx
    rw [List.drop_eq_getElem_cons hv, he]
  have hk : ks.drop (i + 1) = e2 :: ks.drop (i + 2) := by
    obtain ⟨hv, he⟩ := List.getElem?_eq_some_iff.1 hi2
    rw [List.drop_eq_getElem_cons hv, he]
  rw [h1, hd, hk, List.map_cons, post] at hs
  refine ⟨fun y hy => hs.app.2.2 y (List.mem_append_right _ hy) x (List.mem_cons_self ..), fun y hy => hs.app.2.1.cons.1 y (List.mem_append_left _ hy)⟩
theorem item_in {o : Nat} {cur : Int} {lo : Nat} {w : World} {e : Kd} {t : Int} {lv kv : Value} {L : List It} {ks : List Kd} (hN : NodeV o cur lo w e t lv kv L ks) {y : It} (hy : y ∈ L) : y ∈ e.F := by
  rw [hN.flat]; exact (weave_sub _ _).subset hy
/-- What enrich leaves. -/
def EnrQ (o : Nat) (cur : Int) (h : Nat) (s : ByteArray) (L : List It) (w : World) (p : Kd) (en : Ending) (w' : World) : Prop := ∃ (p' : Kd) (lv kv : Value) (L' : List It) (ks' : List Kd) (j : Nat) (d : Kd), en = .returned (.tuple #[]) ∧ p'.g = p.g ∧ p'.F = p.F ∧ NodeV o cur 0 w' p' cur lv kv L' ks' ∧ KOk o cur (h + 1) w' L' ks' ∧ L.length ≤ L'.length + 1 ∧ ks'[j]? = some d ∧
  (∃ t lv kv Ld ksd, NodeV o cur (o - 1) w' d t lv kv Ld ksd ∧ KOk o cur h w' Ld ksd ∧ o ≤ Ld.length) ∧ (∀ i b, FindP L' s i b → i = j) ∧ (∀ k, p'.X k → p.X k ∨ w.heap.size ≤ k) ∧ (∀ k, p'.Y k → p.Y k ∨ w.heap.size ≤ k) ∧ Fr w w' p.Y
theorem rot_enr {o : Nat} {cur : Int} {h lo : Nat} {s : ByteArray} {L : List It} {A B : List Kd} {i j n1 n2 : Nat} {M : List It} {w V : World} {p : Kd} {en : Ending} {w' : World} (hR : RotQ o cur h lo L A B j n1 n2 M V p en w') (hf : Fr w V (fun _ => False)) (hA : A.length = j) (hj : j < L.length) (hi : (i = j ∧ o ≤ n1) ∨ (i = j + 1 ∧ o ≤ n2)) (hpl : ∀ y, M[n1]? = some y → ∀ i' b, FindP (L.set j y) s i' b → i' = i) : EnrQ o cur h s L w p en w' := by
  obtain ⟨p', lv, kv, y, d1, d2, rfl, hM, hg, hF, hN, hK, ⟨t1, l1, k1, L1, ks1, a1, b1, c1⟩, ⟨t2, l2, k2, L2, ks2, a2, b2, c2⟩, hX, hY, f⟩ := hR
  have hs := hf.size
  have hL : L.take j ++ y :: L.drop (j + 1) = L.set j y := by rw [List.set_eq_take_append_cons_drop, if_pos hj]
  rw [hL] at hN hK
  have hX' : ∀ k, p'.X k → p.X k ∨ w.heap.size ≤ k := fun k hk => (hX k hk).imp id (fun h => by omega)
  have hY' : ∀ k, p'.Y k → p.Y k ∨ w.heap.size ≤ k := fun k hk => (hY k hk).imp id (fun h => by omega)
  have hf' : Fr w w' p.Y := (hf.trans f).mono (fun k _ h => h.elim (fun h => h.elim) id)
  rcases hi with ⟨rfl, hn⟩ | ⟨rfl, hn⟩
  · exact ⟨p', lv, kv, _, _, i, d1, rfl, hg, hF, hN.lower (Nat.zero_le _), hK, by rw [List.length_set]; omega, by rw [List.getElem?_append_right (by omega), hA, Nat.sub_self]; rfl, ⟨t1, l1, k1, L1, ks1, a1, b1, by omega⟩, hpl y hM, hX', hY', hf'⟩
  · exact ⟨p', lv, kv, _, _, j + 1, d2, rfl, hg, hF, hN.lower (Nat.zero_le _), hK, by rw [List.length_set]; omega, by rw [List.getElem?_append_right (by omega), hA, Nat.add_sub_cancel_left]; rfl, ⟨t2, l2, k2, L2, ks2, a2, b2, by omega⟩, hpl y hM, hX', hY', hf'⟩
theorem merg_enr {o : Nat} {cur : Int} {h : Nat} {s : ByteArray} {L : List It} {ks : List Kd} {m : Nat} {w V : World} {p : Kd} {en : Ending} {w' : World} (hM : MergQ o cur h L ks m V p en w') (hf : Fr w V (fun _ => False)) (hk : m ≤ ks.length) (hm : m < L.length) (hpl : ∀ i' b, FindP (L.take m ++ L.drop (m + 1)) s i' b → i' = m) : EnrQ o cur h s L w p en w' := by
  obtain ⟨p', lv, kv, d, rfl, hg, hF, hN, hK, hd, hX, hY, f⟩ := hM
  have hs := hf.size
  exact ⟨p', lv, kv, _, _, m, d, rfl, hg, hF, hN, hK, by rw [List.length_append, List.length_take, List.length_drop]; omega, by rw [List.getElem?_append_right (by rw [List.length_take]; omega), List.length_take, Nat.min_eq_left hk, Nat.sub_self]; rfl, hd, hpl, fun k hk => (hX k hk).imp id (fun h => by omega), fun k hk => (hY k hk).imp id (fun h => by omega), (hf.trans f).mono (fun k _ h => h.elim (fun h => h.elim) id)⟩
theorem merged_get {L : List It} {m k : Nat} (hm : m < L.length) : (L.take m ++ L.drop (m + 1))[k]? = if k < m then L[k]? else L[k + 1]? := by
  rw [List.getElem?_append, List.length_take, Nat.min_eq_left (by omega)]
  split
  · rw [List.getElem?_take, if_pos (by assumption)]
  · rw [List.getElem?_drop, show m + 1 + (k - m) = k + 1 by omega]
set_option maxHeartbeats 16000000 in
theorem enrich_any {o : Nat} {cur : Int} {h lo : Nat} {w : World} {p e : Kd} {lv kv : Value} {L : List It} {ks : List Kd} {te : Int} {le ke : Value} {Le : List It} {kse : List Kd} {tb root : Nat} {cnt : Int} {s : ByteArray} {b : Bool} (hT : TreeB w tb o cnt root cur) (htb : ¬ p.X tb) (hN : NodeV o cur lo w p cur lv kv L ks) (hK : KOk o cur (h + 1) w L ks) (hsr : Srt p.F) {i : Nat} (hi : ks[i]? = some e) (hNe : NodeV o cur (o - 1) w e te le ke Le kse) (hKe : KOk o cur h w Le kse) (hLe : Le.length = o - 1) (h1 : 1 ≤ L.length) (hfp : FindP L s i b) (ho2 : 2 ≤ o) (ho : o ≤ 64) :
    Calls Tryz.prog 58 #[.pointer (some ⟨tb, 0, none⟩), .pointer (some ⟨p.g, 0, none⟩), .int .i64 (i : Int)] w (EnrQ o cur h s L w p) := by
  have hkl : ks.length = L.length + 1 := hK.1
  have hil : i < ks.length := (List.getElem?_eq_some_iff.1 hi).1
  have hsr' : Srt (weave (ks.map Kd.F) L) := by rw [← hN.flat]; exact hsr
  -- the left one
  have HA : ∀ j e0 t0 l0 k0 L0 ks0, i = j + 1 → ks[j]? = some e0 → NodeV o cur (o - 1) w e0 t0 l0 k0 L0 ks0 → KOk o cur h w L0 ks0 → o ≤ L0.length → ∀ V, Fr w V (fun _ => False) → Calls Tryz.prog 93 #[.pointer (some ⟨tb, 0, none⟩), .pointer (some ⟨p.g, 0, none⟩), .int .i64 (i : Int)] V (EnrQ o cur h s L w p) := by
    intro j e0 t0 l0 k0 L0 ks0 hij hj hN0 hK0 hl0 V hf
    obtain ⟨x, hx⟩ : ∃ x, L[j]? = some x := ⟨_, List.getElem?_eq_getElem (by omega)⟩
    have hi' : ks[j + 1]? = some e := by rw [← hij]; exact hi
    refine (fromLeft_any (hT.fr hf (fun h => h)) htb (hN.fr hf (fun _ _ h => h)) (hK.fr hf (fun _ _ _ _ h => h)) hij hx hj hi' (hN0.fr hf (fun _ _ h => h)) (hK0.fr hf (fun _ _ _ _ h => h)) (hNe.fr hf (fun _ _ h => h)) (hKe.fr hf (fun _ _ _ _ h => h)) hl0 hLe ho2 ho).mono ?_
    intro en w' hR
    refine rot_enr hR hf (by rw [List.length_take]; omega) (by omega) (.inr ⟨hij, by omega⟩) ?_
    intro y hy
    have hyL : y ∈ L0 := by
      rw [List.getElem?_append_left (by omega)] at hy
      exact List.mem_of_getElem? hy
    have hyx := (node_between hkl hj hi' hx hsr').1 y (item_in hN0 hyL)
    have hxs := hfp.2.1 j x (by omega) hx
    refine place_one (by rw [List.length_set]; omega) (fun k z hk hz => ?_) (fun z hz => ?_)
    · rw [List.getElem?_set] at hz
      split at hz
      · split at hz
        · cases hz; exact kl_trans hyx hxs
        · cases hz
      · exact hfp.2.1 k z hk hz
    · rw [List.getElem?_set, if_neg (by omega)] at hz
      exact hfp.2.2.1 i z (Nat.le_refl _) hz
  -- the right one
  have HB : ∀ e2 t2 l2 k2 L2 ks2, ks[i + 1]? = some e2 → NodeV o cur (o - 1) w e2 t2 l2 k2 L2 ks2 → KOk o cur h w L2 ks2 → o ≤ L2.length → ∀ V, Fr w V (fun _ => False) → Calls Tryz.prog 94 #[.pointer (some ⟨tb, 0, none⟩), .pointer (some ⟨p.g, 0, none⟩), .int .i64 (i : Int)] V (EnrQ o cur h s L w p) := by
    intro e2 t2 l2 k2 L2 ks2 hi2 hN2 hK2 hl2 V hf
    have hil2 : i + 1 < ks.length := (List.getElem?_eq_some_iff.1 hi2).1
    obtain ⟨x, hx⟩ : ∃ x, L[i]? = some x := ⟨_, List.getElem?_eq_getElem (by omega)⟩
    refine (fromRight_any (hT.fr hf (fun h => h)) htb (hN.fr hf (fun _ _ h => h)) (hK.fr hf (fun _ _ _ _ h => h)) hx hi hi2 (hNe.fr hf (fun _ _ h => h)) (hKe.fr hf (fun _ _ _ _ h => h)) (hN2.fr hf (fun _ _ h => h)) (hK2.fr hf (fun _ _ _ _ h => h)) hLe hl2 ho2 ho).mono ?_
    intro en w' hR
    refine rot_enr hR hf (by rw [List.length_take]; omega) (by omega) (.inl ⟨rfl, by omega⟩) ?_
    intro y hy
    have hyL : y ∈ L2 := by
      rw [List.getElem?_append_right (by omega), Nat.add_sub_cancel_left, List.getElem?_cons] at hy
      simp at hy
      exact List.mem_of_getElem? hy
    have hxy := (node_between hkl hi hi2 hx hsr').2 y (item_in hN2 hyL)
    have hxs := hfp.2.2.1 i x (Nat.le_refl _) hx
    refine place_one (by rw [List.length_set]; omega) (fun k z hk hz => ?_) (fun z hz => ?_)
    · rw [List.getElem?_set, if_neg (by omega)] at hz
      exact hfp.2.1 k z hk hz
    · rw [List.getElem?_set, if_pos rfl, if_pos (by omega)] at hz
      cases hz
      have h1 := kc_neg x.key s
      have h2 := good_bytes.strict2 _ _ _ (show kc s x.key ≤ 0 by omega) hxy
      have h3 := kc_neg y.key s
      have h4 : kc s y.key < 0 := h2
      omega
  -- made one
  have HC : ∀ e2 t2 l2 k2 L2 ks2, ks[i + 1]? = some e2 → NodeV o cur (o - 1) w e2 t2 l2 k2 L2 ks2 → KOk o cur h w L2 ks2 → L2.length = o - 1 → ∀ V, Fr w V (fun _ => False) → Calls Tryz.prog 95 #[.pointer (some ⟨tb, 0, none⟩), .pointer (some ⟨p.g, 0, none⟩), .int .i64 (i : Int)] V (EnrQ o cur h s L w p) := by
    intro e2 t2 l2 k2 L2 ks2 hi2 hN2 hK2 hl2 V hf
    have hil2 : i + 1 < ks.length := (List.getElem?_eq_some_iff.1 hi2).1
    refine (merge_any (hT.fr hf (fun h => h)) htb (hN.fr hf (fun _ _ h => h)) (hK.fr hf (fun _ _ _ _ h => h)) hi hi2 (hNe.fr hf (fun _ _ h => h)) (hKe.fr hf (fun _ _ _ _ h => h)) (hN2.fr hf (fun _ _ h => h)) (hK2.fr hf (fun _ _ _ _ h => h)) hLe hl2 ho2 ho).mono ?_
    intro en w' hR
    refine merg_enr hR hf (by omega) (by omega) (place_one (by rw [List.length_append, List.length_take, List.length_drop]; omega) (fun k z hk hz => ?_) (fun z hz => ?_))
    · rw [merged_get (by omega), if_pos hk] at hz
      exact hfp.2.1 k z hk hz
    · rw [merged_get (by omega), if_neg (by omega)] at hz
      exact hfp.2.2.1 (i + 1) z (by omega) hz
  have HD : ∀ j e0 t0 l0 k0 L0 ks0, i = j + 1 → i = L.length → ks[j]? = some e0 → NodeV o cur (o - 1) w e0 t0 l0 k0 L0 ks0 → KOk o cur h w L0 ks0 → L0.length = o - 1 → ∀ V, Fr w V (fun _ => False) → Calls Tryz.prog 95 #[.pointer (some ⟨tb, 0, none⟩), .pointer (some ⟨p.g, 0, none⟩), .int .i64 (j : Int)] V (EnrQ o cur h s L w p) := by
    intro j e0 t0 l0 k0 L0 ks0 hij hlast hj hN0 hK0 hl0 V hf
    have hi' : ks[j + 1]? = some e := by rw [← hij]; exact hi
    refine (merge_any (hT.fr hf (fun h => h)) htb (hN.fr hf (fun _ _ h => h)) (hK.fr hf (fun _ _ _ _ h => h)) hj hi' (hN0.fr hf (fun _ _ h => h)) (hK0.fr hf (fun _ _ _ _ h => h)) (hNe.fr hf (fun _ _ h => h)) (hKe.fr hf (fun _ _ _ _ h => h)) hl0 hLe ho2 ho).mono ?_
    intro en w' hR
    refine merg_enr hR hf (by omega) (by omega) (place_one (by rw [List.length_append, List.length_take, List.length_drop]; omega) (fun k z hk hz => ?_) (fun z hz => ?_))
    · rw [merged_get (by omega), if_pos hk] at hz
      exact hfp.2.1 k z (by omega) hz
    · rw [merged_get (by omega), if_neg (by omega), List.getElem?_eq_none (by omega)] at hz
      cases hz
  obtain ⟨la, lc, ka, kc', rfl, rfl⟩ := hN.shape
  obtain ⟨gk, rfl, ce⟩ := row_cell hN.krow (show (ptrs ks)[i]? = some (.pointer (some ⟨e.g, 0, none⟩)) by unfold ptrs; rw [List.getElem?_map, hi]; rfl)
  have hkc : ∀ q d, ks[q]? = some d → w.cell? ⟨gk, q, none⟩ = some (.pointer (some ⟨d.g, 0, none⟩)) := fun q d hq => by
    obtain ⟨g, e1, c⟩ := row_cell hN.krow (show (ptrs ks)[q]? = some (.pointer (some ⟨d.g, 0, none⟩)) by unfold ptrs; rw [List.getElem?_map, hq]; rfl)
    cases e1
    exact c
  obtain ⟨pg, hpg⟩ : ∃ pg, pg = p.g := ⟨_, rfl⟩
  have xN := hN.cells
  rw [← hpg] at xN HA HB HC HD ⊢
  obtain ⟨n, hn⟩ : ∃ n, L.length = n := ⟨_, rfl⟩
  obtain ⟨m, hm⟩ : ∃ m, ks.length = m := ⟨_, rfl⟩
  rw [hn, hm] at xN
  have hmn : m = n + 1 := by omega
  have hin : i ≤ n := by omega
  have hnb : n ≤ 127 := by have := hN.high; omega
  have x1 := xN.2.1
  have x2 := xN.2.2
  have y0 := hT.cells.1
  have y1 := hT.cells.2.1
  have HSUB : Hid (∀ q d, ks[q]? = some d → ∃ t l k L' ks', NodeV o cur (o - 1) w d t l k L' ks' ∧ KOk o cur h w L' ks') := hide (fun q d hq => sub_iff.1 (hK.2 d (List.mem_of_getElem? hq)))
  have HAh := hide HA
  have HBh := hide HB
  have HCh := hide HC
  have HDh := hide HD
  have HKC := hide hkc
  have HLN := hide hn
  have HLM := hide hm
  have HW := hide hT
  have HMN := hide hmn
  have him : i < m := by omega
  clear hmn HA HB HC HD hkc hn hm hN hK hT htb hsr hsr' hi hNe hKe hLe hfp hkl hil ce xN hpg
  go_enter Tryz.func58, Tryz.ntmps58
  by_cases hi0 : i = 0
  · skip
    have hg : decide ((i : Int) > 0) = false := decide_eq_false (by omega)
    have hg' : decide ((0 : Int) < (i : Int)) = false := hg
    have HI0 := hide hi0
    clear hi0
    go_wp2_with fail
    refine wp_region_K (fun _ => true) (fun U : World => Fr w.drew U (fun _ => False)) (by kernel_rfl) ?_
    obtain ⟨Wd, hWd⟩ : ∃ Wd, Wd = w.drew := ⟨_, rfl⟩
    have FV : Fr w Wd (fun _ => False) := by rw [hWd]; exact Fr.drew _ _
    rw [← hWd]
    clear hWd
    have hS : (fun U : World => Fr Wd U (fun _ => False)) Wd := Fr.refl _ _
    have hSx : ∀ V, Fr Wd V (fun _ => False) → V.cell? ⟨tb, 0, none⟩ = some (.int .i64 (o : Int)) ∧ V.cell? ⟨tb, 1, none⟩ = some (.int .i64 cnt) ∧ V.cell? ⟨pg, 1, none⟩ = some (.slice la n lc) ∧ V.cell? ⟨pg, 2, none⟩ = some (.slice (some ⟨gk, 0, none⟩) m kc') ∧ True := fun V hV => by
      have hd := FV.two hV
      exact ⟨hd.cell (fun h => h) y0, hd.cell (fun h => h) y1, hd.cell (fun h => h) x1, hd.cell (fun h => h) x2, trivial⟩
    refine wpAnyK_takeTo 0 (some 12) (.int .i64 (i : Int)) [1, 2, 3, 4, 5, 6, 7, 8, 9, 10, 11, 12, 13, 14, 15, 16, 17] rfl rfl (by kernel_rfl) (by kernel_rfl) (by kernel_rfl) (by kernel_rfl) (fun _ _ _ h => h) hS (Or.inl ⟨rfl, fun w1 hw1 => by obtain ⟨q0, q1, q2, q3, _⟩ := hSx _ hw1; go_simp <;> (first | (rw [wrap_nat (by omega)]) | omega | exact HI0.out)⟩) ?_
    simp only [Act.put, List.setIfInBounds_toArray, List.set_cons_zero, List.set_cons_succ]
    refine wpAnyK_takeTo 1 (some 13) (.bool false) [2, 3, 4, 5, 6, 7, 8, 9, 10, 11, 12, 13, 14, 15, 16, 17] rfl rfl (by kernel_rfl) (by kernel_rfl) (by kernel_rfl) (by kernel_rfl) (fun _ _ _ h => h) hS (Or.inl ⟨rfl, fun w1 hw1 => by obtain ⟨q0, q1, q2, q3, _⟩ := hSx _ hw1; go_simp <;> (first | (rw [wrap_nat (by omega)]) | omega | exact HI0.out)⟩) ?_
    simp only [Act.put, List.setIfInBounds_toArray, List.set_cons_zero, List.set_cons_succ]
    refine wpAnyK_takeTo 2 (some 14) (.bool false) [3, 4, 5, 6, 7, 8, 9, 10, 11, 12, 13, 14, 15, 16, 17] rfl rfl (by kernel_rfl) (by kernel_rfl) (by kernel_rfl) (by kernel_rfl) (fun _ _ _ h => h) hS (Or.inl ⟨rfl, fun w1 hw1 => by obtain ⟨q0, q1, q2, q3, _⟩ := hSx _ hw1; go_simp <;> (first | (rw [wrap_nat (by omega)]) | omega | exact HI0.out)⟩) ?_
    simp only [Act.put, List.setIfInBounds_toArray, List.set_cons_zero, List.set_cons_succ]
    refine wpAnyK_takeTo 3 (some 15) (undef) [4, 5, 6, 15, 16, 17] rfl rfl (by kernel_rfl) (by kernel_rfl) (by kernel_rfl) (by kernel_rfl) (fun _ _ _ h => h) hS (Or.inr ⟨rfl, rfl⟩) ?_
    simp only [Act.put, List.setIfInBounds_toArray, List.set_cons_zero, List.set_cons_succ]
    refine wpAnyK_takeTo 4 (some 16) (undef) [5, 6, 15, 16, 17] rfl rfl (by kernel_rfl) (by kernel_rfl) (by kernel_rfl) (by kernel_rfl) (fun _ _ _ h => h) hS (Or.inr ⟨rfl, rfl⟩) ?_
    simp only [Act.put, List.setIfInBounds_toArray, List.set_cons_zero, List.set_cons_succ]
    refine wpAnyK_takeTo 5 (some 17) (undef) [6, 15, 16, 17] rfl rfl (by kernel_rfl) (by kernel_rfl) (by kernel_rfl) (by kernel_rfl) (fun _ _ _ h => h) hS (Or.inr ⟨rfl, rfl⟩) ?_
    simp only [Act.put, List.setIfInBounds_toArray, List.set_cons_zero, List.set_cons_succ]
    refine wpAnyK_takeTo 6 (some 18) (undef) [15, 16, 17] rfl rfl (by kernel_rfl) (by kernel_rfl) (by kernel_rfl) (by kernel_rfl) (fun _ _ _ h => h) hS (Or.inr ⟨rfl, rfl⟩) ?_
    simp only [Act.put, List.setIfInBounds_toArray, List.set_cons_zero, List.set_cons_succ]
    refine wpAnyK_takeTo 7 (some 19) (undef) [8, 9, 10, 13, 14, 15, 16, 17] rfl rfl (by kernel_rfl) (by kernel_rfl) (by kernel_rfl) (by kernel_rfl) (fun _ _ _ h => h) hS (Or.inr ⟨rfl, rfl⟩) ?_
    simp only [Act.put, List.setIfInBounds_toArray, List.set_cons_zero, List.set_cons_succ]
    refine wpAnyK_takeTo 8 (some 20) (undef) [9, 10, 13, 14, 15, 16, 17] rfl rfl (by kernel_rfl) (by kernel_rfl) (by kernel_rfl) (by kernel_rfl) (fun _ _ _ h => h) hS (Or.inr ⟨rfl, rfl⟩) ?_
    simp only [Act.put, List.setIfInBounds_toArray, List.set_cons_zero, List.set_cons_succ]
    refine wpAnyK_takeTo 9 (some 21) (undef) [10, 13, 14, 15, 16, 17] rfl rfl (by kernel_rfl) (by kernel_rfl) (by kernel_rfl) (by kernel_rfl) (fun _ _ _ h => h) hS (Or.inr ⟨rfl, rfl⟩) ?_
    simp only [Act.put, List.setIfInBounds_toArray, List.set_cons_zero, List.set_cons_succ]
    refine wpAnyK_takeTo 10 (some 22) (undef) [13, 14, 15, 16, 17] rfl rfl (by kernel_rfl) (by kernel_rfl) (by kernel_rfl) (by kernel_rfl) (fun _ _ _ h => h) hS (Or.inr ⟨rfl, rfl⟩) ?_
    simp only [Act.put, List.setIfInBounds_toArray, List.set_cons_zero, List.set_cons_succ]
    refine wpAnyK_takeTo 11 (some 23) (undef) [12, 13, 14, 15, 16, 17] rfl rfl (by kernel_rfl) (by kernel_rfl) (by kernel_rfl) (by kernel_rfl) (fun _ _ _ h => h) hS (Or.inr ⟨rfl, rfl⟩) ?_
    simp only [Act.put, List.setIfInBounds_toArray, List.set_cons_zero, List.set_cons_succ]
    refine wpAnyK_takeTo 12 (some 24) (undef) [13, 14, 15, 16, 17] rfl rfl (by kernel_rfl) (by kernel_rfl) (by kernel_rfl) (by kernel_rfl) (fun _ _ _ h => h) hS (Or.inr ⟨rfl, rfl⟩) ?_
    simp only [Act.put, List.setIfInBounds_toArray, List.set_cons_zero, List.set_cons_succ]
    refine wpAnyK_takeTo 13 (some 25) (undef) [14, 15, 16, 17] rfl rfl (by kernel_rfl) (by kernel_rfl) (by kernel_rfl) (by kernel_rfl) (fun _ _ _ h => h) hS (Or.inr ⟨rfl, rfl⟩) ?_
    simp only [Act.put, List.setIfInBounds_toArray, List.set_cons_zero, List.set_cons_succ]
    refine wpAnyK_takeTo 14 (some 26) (undef) [15, 16, 17] rfl rfl (by kernel_rfl) (by kernel_rfl) (by kernel_rfl) (by kernel_rfl) (fun _ _ _ h => h) hS (Or.inr ⟨rfl, rfl⟩) ?_
    simp only [Act.put, List.setIfInBounds_toArray, List.set_cons_zero, List.set_cons_succ]
    refine wpAnyK_takeTo 15 (some 27) (undef) [16, 17] rfl rfl (by kernel_rfl) (by kernel_rfl) (by kernel_rfl) (by kernel_rfl) (fun _ _ _ h => h) hS (Or.inr ⟨rfl, rfl⟩) ?_
    simp only [Act.put, List.setIfInBounds_toArray, List.set_cons_zero, List.set_cons_succ]
    refine wpAnyK_takeTo 16 (some 28) (.bool false) [17] rfl rfl (by kernel_rfl) (by kernel_rfl) (by kernel_rfl) (by kernel_rfl) (fun _ _ _ h => h) hS (Or.inl ⟨rfl, fun w1 hw1 => by obtain ⟨q0, q1, q2, q3, _⟩ := hSx _ hw1; go_simp <;> (first | (rw [wrap_nat (by omega)]) | omega | exact HI0.out)⟩) ?_
    simp only [Act.put, List.setIfInBounds_toArray, List.set_cons_zero, List.set_cons_succ]
    refine wpAnyK_takeTo 17 (some 11) (.bool false) [] rfl rfl (by kernel_rfl) (by kernel_rfl) (by kernel_rfl) (by kernel_rfl) (fun _ _ _ h => h) hS (Or.inl ⟨rfl, fun w1 hw1 => by obtain ⟨q0, q1, q2, q3, _⟩ := hSx _ hw1; go_simp <;> (first | (rw [wrap_nat (by omega)]) | omega | exact HI0.out)⟩) ?_
    simp only [Act.put, List.setIfInBounds_toArray, List.set_cons_zero, List.set_cons_succ]
    refine wpAnyK_done (by kernel_rfl) ?_ _
    clear hS hSx hg hg'
    by_cases hin' : i = n
    · exfalso; have := HLN.out; have := HI0.out; omega
    · obtain ⟨e2, hi2⟩ : ∃ e2, ks[i + 1]? = some e2 := ⟨_, List.getElem?_eq_getElem (by rw [HLM.out]; have := HMN.out; omega)⟩
      obtain ⟨t2, l2, k2, L2, ks2, hN2, hK2⟩ := HSUB.out (i + 1) e2 hi2
      by_cases hrl2 : o ≤ L2.length
      · have hr2 : decide (o ≤ L2.length) = true := decide_eq_true hrl2
        have hg2 : decide ((i : Int) < (n : Int)) = true := decide_eq_true (by omega)
        have hlt : i < n := by omega
        obtain ⟨i1, hi1⟩ : ∃ i1, i1 = i + 1 := ⟨_, rfl⟩
        have hi1' : (i : Int) + 1 = (i1 : Int) := by omega
        have hi1m : i1 < m := by have := HMN.out; omega
        have c2 := HKC.out (i + 1) e2 hi2
        rw [← hi1] at c2
        have HI1 := hide hi1
        clear hi1
        go_wp2_with fail
        refine wp_region_K (fun _ => true) (fun U : World => Fr Wd.drew U (fun _ => False)) (by kernel_rfl) ?_
        obtain ⟨We, hWe⟩ : ∃ We, We = Wd.drew := ⟨_, rfl⟩
        have FW : Fr w We (fun _ => False) := by rw [hWe]; exact FV.two (Fr.drew _ _)
        rw [← hWe]
        clear hWe
        have hS : (fun U : World => Fr We U (fun _ => False)) We := Fr.refl _ _
        have hSx : ∀ V, Fr We V (fun _ => False) → V.cell? ⟨tb, 0, none⟩ = some (.int .i64 (o : Int)) ∧ V.cell? ⟨tb, 1, none⟩ = some (.int .i64 cnt) ∧ V.cell? ⟨pg, 1, none⟩ = some (.slice la n lc) ∧ V.cell? ⟨pg, 2, none⟩ = some (.slice (some ⟨gk, 0, none⟩) m kc') ∧ V.cell? ⟨gk, i1, none⟩ = some (.pointer (some ⟨e2.g, 0, none⟩)) ∧ True := fun V hV => by
          have hd := FW.two hV
          exact ⟨hd.cell (fun h => h) y0, hd.cell (fun h => h) y1, hd.cell (fun h => h) x1, hd.cell (fun h => h) x2, hd.cell (fun h => h) c2, trivial⟩
        refine wpAnyK_takeTo 0 (some 34) (.int .i64 (i : Int)) [6, 7, 8, 9, 10, 11, 12, 13, 14, 15, 16, 17, 18, 19, 20, 21, 22] rfl rfl (by kernel_rfl) (by kernel_rfl) (by kernel_rfl) (by kernel_rfl) (fun _ _ _ h => h) hS (Or.inl ⟨rfl, fun w1 hw1 => by obtain ⟨q0, q1, q2, q3, q4, _⟩ := hSx _ hw1; go_simp <;> (first | (rw [wrap_nat (by omega)]) | omega | exact HI0.out)⟩) ?_
        simp only [Act.put, List.setIfInBounds_toArray, List.set_cons_zero, List.set_cons_succ]
        refine wpAnyK_takeTo 1 (some 35) (.pointer (some ⟨pg, 0, none⟩)) [2, 3, 4, 5, 6, 7, 8, 9, 10, 11, 12, 13, 14, 15, 16, 17, 18, 19, 20, 21, 22] rfl rfl (by kernel_rfl) (by kernel_rfl) (by kernel_rfl) (by kernel_rfl) (fun _ _ _ h => h) hS (Or.inl ⟨rfl, fun w1 hw1 => by obtain ⟨q0, q1, q2, q3, q4, _⟩ := hSx _ hw1; go_simp <;> (first | (rw [wrap_nat (by omega)]) | omega | exact HI0.out)⟩) ?_
        simp only [Act.put, List.setIfInBounds_toArray, List.set_cons_zero, List.set_cons_succ]
        refine wpAnyK_takeTo 2 (some 36) (.pointer (some ⟨pg, 0, none⟩)) [3, 4, 5, 6, 7, 8, 9, 10, 11, 12, 13, 14, 15, 16, 17, 18, 19, 20, 21, 22] rfl rfl (by kernel_rfl) (by kernel_rfl) (by kernel_rfl) (by kernel_rfl) (fun _ _ _ h => h) hS (Or.inl ⟨rfl, fun w1 hw1 => by obtain ⟨q0, q1, q2, q3, q4, _⟩ := hSx _ hw1; go_simp <;> (first | (rw [wrap_nat (by omega)]) | omega | exact HI0.out)⟩) ?_
        simp only [Act.put, List.setIfInBounds_toArray, List.set_cons_zero, List.set_cons_succ]
        refine wpAnyK_takeTo 3 (some 37) (.pointer (some ⟨pg, 1, none⟩)) [4, 5, 6, 7, 8, 9, 10, 11, 12, 13, 14, 15, 16, 17, 18, 19, 20, 21, 22] rfl rfl (by kernel_rfl) (by kernel_rfl) (by kernel_rfl) (by kernel_rfl) (fun _ _ _ h => h) hS (Or.inl ⟨rfl, fun w1 hw1 => by obtain ⟨q0, q1, q2, q3, q4, _⟩ := hSx _ hw1; go_simp <;> (first | (rw [wrap_nat (by omega)]) | omega | exact HI0.out)⟩) ?_
        simp only [Act.put, List.setIfInBounds_toArray, List.set_cons_zero, List.set_cons_succ]
        refine wpAnyK_takeTo 4 (some 38) (.slice la n lc) [5, 6, 7, 8, 9, 10, 11, 12, 13, 14, 15, 16, 17, 18, 19, 20, 21, 22] rfl rfl (by kernel_rfl) (by kernel_rfl) (by kernel_rfl) (by kernel_rfl) (fun _ _ _ h => h) hS (Or.inl ⟨rfl, fun w1 hw1 => by obtain ⟨q0, q1, q2, q3, q4, _⟩ := hSx _ hw1; go_simp <;> (first | (rw [wrap_nat (by omega)]) | omega | exact HI0.out)⟩) ?_
        simp only [Act.put, List.setIfInBounds_toArray, List.set_cons_zero, List.set_cons_succ]
        refine wpAnyK_takeTo 5 (some 39) (.int .i64 (n : Int)) [6, 7, 8, 9, 10, 11, 12, 13, 14, 15, 16, 17, 18, 19, 20, 21, 22] rfl rfl (by kernel_rfl) (by kernel_rfl) (by kernel_rfl) (by kernel_rfl) (fun _ _ _ h => h) hS (Or.inl ⟨rfl, fun w1 hw1 => by obtain ⟨q0, q1, q2, q3, q4, _⟩ := hSx _ hw1; go_simp <;> (first | (rw [wrap_nat (by omega)]) | omega | exact HI0.out)⟩) ?_
        simp only [Act.put, List.setIfInBounds_toArray, List.set_cons_zero, List.set_cons_succ]
        refine wpAnyK_takeTo 6 (some 40) (.bool true) [7, 8, 9, 10, 11, 12, 13, 14, 15, 16, 17, 18, 19, 20, 21, 22] rfl rfl (by kernel_rfl) (by kernel_rfl) (by kernel_rfl) (by kernel_rfl) (fun _ _ _ h => h) hS (Or.inl ⟨rfl, fun w1 hw1 => by obtain ⟨q0, q1, q2, q3, q4, _⟩ := hSx _ hw1; go_simp <;> (first | (rw [wrap_nat (by omega)]) | omega | exact HI0.out)⟩) ?_
        simp only [Act.put, List.setIfInBounds_toArray, List.set_cons_zero, List.set_cons_succ]
        refine wpAnyK_takeTo 7 (some 41) (.bool true) [8, 9, 10, 11, 12, 13, 14, 15, 16, 17, 18, 19, 20, 21, 22] rfl rfl (by kernel_rfl) (by kernel_rfl) (by kernel_rfl) (by kernel_rfl) (fun _ _ _ h => h) hS (Or.inl ⟨rfl, fun w1 hw1 => by obtain ⟨q0, q1, q2, q3, q4, _⟩ := hSx _ hw1; go_simp <;> (first | (rw [wrap_nat (by omega)]) | omega | exact HI0.out)⟩) ?_
        simp only [Act.put, List.setIfInBounds_toArray, List.set_cons_zero, List.set_cons_succ]
        refine wpAnyK_takeTo 8 (some 42) (.pointer (some ⟨tb, 0, none⟩)) [9, 10, 11, 20, 21, 22] rfl rfl (by kernel_rfl) (by kernel_rfl) (by kernel_rfl) (by kernel_rfl) (fun _ _ _ h => h) hS (Or.inl ⟨rfl, fun w1 hw1 => by obtain ⟨q0, q1, q2, q3, q4, _⟩ := hSx _ hw1; go_simp <;> (first | (rw [wrap_nat (by omega)]) | omega | exact HI0.out)⟩) ?_
        simp only [Act.put, List.setIfInBounds_toArray, List.set_cons_zero, List.set_cons_succ]
        refine wpAnyK_takeTo 9 (some 43) (.pointer (some ⟨tb, 0, none⟩)) [10, 11, 20, 21, 22] rfl rfl (by kernel_rfl) (by kernel_rfl) (by kernel_rfl) (by kernel_rfl) (fun _ _ _ h => h) hS (Or.inl ⟨rfl, fun w1 hw1 => by obtain ⟨q0, q1, q2, q3, q4, _⟩ := hSx _ hw1; go_simp <;> (first | (rw [wrap_nat (by omega)]) | omega | exact HI0.out)⟩) ?_
        simp only [Act.put, List.setIfInBounds_toArray, List.set_cons_zero, List.set_cons_succ]
        refine wpAnyK_takeTo 10 (some 44) (.pointer (some ⟨tb, 0, none⟩)) [11, 20, 21, 22] rfl rfl (by kernel_rfl) (by kernel_rfl) (by kernel_rfl) (by kernel_rfl) (fun _ _ _ h => h) hS (Or.inl ⟨rfl, fun w1 hw1 => by obtain ⟨q0, q1, q2, q3, q4, _⟩ := hSx _ hw1; go_simp <;> (first | (rw [wrap_nat (by omega)]) | omega | exact HI0.out)⟩) ?_
        simp only [Act.put, List.setIfInBounds_toArray, List.set_cons_zero, List.set_cons_succ]
        refine wpAnyK_takeTo 11 (some 45) (.agg #[.int .i64 (o : Int), .int .i64 cnt]) [20, 21, 22] rfl rfl (by kernel_rfl) (by kernel_rfl) (by kernel_rfl) (by kernel_rfl) (fun _ _ _ h => h) hS (Or.inl ⟨rfl, fun w1 hw1 => by obtain ⟨q0, q1, q2, q3, q4, _⟩ := hSx _ hw1; go_simp <;> (first | (rw [wrap_nat (by omega)]) | omega | exact HI0.out)⟩) ?_
        simp only [Act.put, List.setIfInBounds_toArray, List.set_cons_zero, List.set_cons_succ]
        refine wpAnyK_takeTo 12 (some 46) (.pointer (some ⟨pg, 0, none⟩)) [13, 14, 15, 18, 19, 20, 21, 22] rfl rfl (by kernel_rfl) (by kernel_rfl) (by kernel_rfl) (by kernel_rfl) (fun _ _ _ h => h) hS (Or.inl ⟨rfl, fun w1 hw1 => by obtain ⟨q0, q1, q2, q3, q4, _⟩ := hSx _ hw1; go_simp <;> (first | (rw [wrap_nat (by omega)]) | omega | exact HI0.out)⟩) ?_
        simp only [Act.put, List.setIfInBounds_toArray, List.set_cons_zero, List.set_cons_succ]
        refine wpAnyK_takeTo 13 (some 47) (.pointer (some ⟨pg, 0, none⟩)) [14, 15, 18, 19, 20, 21, 22] rfl rfl (by kernel_rfl) (by kernel_rfl) (by kernel_rfl) (by kernel_rfl) (fun _ _ _ h => h) hS (Or.inl ⟨rfl, fun w1 hw1 => by obtain ⟨q0, q1, q2, q3, q4, _⟩ := hSx _ hw1; go_simp <;> (first | (rw [wrap_nat (by omega)]) | omega | exact HI0.out)⟩) ?_
        simp only [Act.put, List.setIfInBounds_toArray, List.set_cons_zero, List.set_cons_succ]
        refine wpAnyK_takeTo 14 (some 48) (.pointer (some ⟨pg, 2, none⟩)) [15, 18, 19, 20, 21, 22] rfl rfl (by kernel_rfl) (by kernel_rfl) (by kernel_rfl) (by kernel_rfl) (fun _ _ _ h => h) hS (Or.inl ⟨rfl, fun w1 hw1 => by obtain ⟨q0, q1, q2, q3, q4, _⟩ := hSx _ hw1; go_simp <;> (first | (rw [wrap_nat (by omega)]) | omega | exact HI0.out)⟩) ?_
        simp only [Act.put, List.setIfInBounds_toArray, List.set_cons_zero, List.set_cons_succ]
        refine wpAnyK_takeTo 15 (some 49) (.slice (some ⟨gk, 0, none⟩) m kc') [18, 19, 20, 21, 22] rfl rfl (by kernel_rfl) (by kernel_rfl) (by kernel_rfl) (by kernel_rfl) (fun _ _ _ h => h) hS (Or.inl ⟨rfl, fun w1 hw1 => by obtain ⟨q0, q1, q2, q3, q4, _⟩ := hSx _ hw1; go_simp <;> (first | (rw [wrap_nat (by omega)]) | omega | exact HI0.out)⟩) ?_
        simp only [Act.put, List.setIfInBounds_toArray, List.set_cons_zero, List.set_cons_succ]
        refine wpAnyK_takeTo 16 (some 50) (.int .i64 (i : Int)) [17, 18, 19, 20, 21, 22] rfl rfl (by kernel_rfl) (by kernel_rfl) (by kernel_rfl) (by kernel_rfl) (fun _ _ _ h => h) hS (Or.inl ⟨rfl, fun w1 hw1 => by obtain ⟨q0, q1, q2, q3, q4, _⟩ := hSx _ hw1; go_simp <;> (first | (rw [wrap_nat (by omega)]) | omega | exact HI0.out)⟩) ?_
        simp only [Act.put, List.setIfInBounds_toArray, List.set_cons_zero, List.set_cons_succ]
        refine wpAnyK_takeTo 17 (some 51) (.int .i64 (i1 : Int)) [18, 19, 20, 21, 22] rfl rfl (by kernel_rfl) (by kernel_rfl) (by kernel_rfl) (by kernel_rfl) (fun _ _ _ h => h) hS (Or.inl ⟨rfl, fun w1 hw1 => by obtain ⟨q0, q1, q2, q3, q4, _⟩ := hSx _ hw1; go_simp <;> (first | (rw [wrap_nat (by omega)]) | omega | exact HI0.out)⟩) ?_
        simp only [Act.put, List.setIfInBounds_toArray, List.set_cons_zero, List.set_cons_succ]
        refine wpAnyK_takeTo 18 (some 52) (.pointer (some ⟨gk, i1, none⟩)) [19, 20, 21, 22] rfl rfl (by kernel_rfl) (by kernel_rfl) (by kernel_rfl) (by kernel_rfl) (fun _ _ _ h => h) hS (Or.inl ⟨rfl, fun w1 hw1 => by obtain ⟨q0, q1, q2, q3, q4, _⟩ := hSx _ hw1; go_simp <;> (first | (rw [wrap_nat (by omega)]) | omega | exact HI0.out)⟩) ?_
        simp only [Act.put, List.setIfInBounds_toArray, List.set_cons_zero, List.set_cons_succ]
        refine wpAnyK_takeTo 19 (some 53) (.pointer (some ⟨e2.g, 0, none⟩)) [20, 21, 22] rfl rfl (by kernel_rfl) (by kernel_rfl) (by kernel_rfl) (by kernel_rfl) (fun _ _ _ h => h) hS (Or.inl ⟨rfl, fun w1 hw1 => by obtain ⟨q0, q1, q2, q3, q4, _⟩ := hSx _ hw1; go_simp <;> (first | (rw [wrap_nat (by omega)]) | omega | exact HI0.out)⟩) ?_
        simp only [Act.put, List.setIfInBounds_toArray, List.set_cons_zero, List.set_cons_succ]
        refine wpAnyK_one (i := 20) (by kernel_rfl) rfl rfl ?_
        refine wp_call_to (some 54) rfl 57 #[.agg #[.int .i64 (o : Int), .int .i64 cnt], .pointer (some ⟨e2.g, 0, none⟩)] (by go_simp) (rich_any (hN2.toNodeP.fr FW (fun _ _ h => h)) o (by omega) ho cnt) ?_
        rintro en W3 ⟨rfl, f1⟩
        have hS1 : (fun U : World => Fr We U (fun _ => False)) W3 := f1
        rw [hr2]
        refine ⟨_, rfl, fun _ => hS1, ?_⟩
        simp only [Act.put, List.setIfInBounds_toArray, List.set_cons_zero, List.set_cons_succ]
        replace hS := hS1
        replace FW := FW.two f1
        clear hS1
        refine wpAnyK_takeTo 21 (some 55) (.bool true) [22] rfl rfl (by kernel_rfl) (by kernel_rfl) (by kernel_rfl) (by kernel_rfl) (fun _ _ _ h => h) hS (Or.inl ⟨rfl, fun w1 hw1 => by go_simp⟩) ?_
        simp only [Act.put, List.setIfInBounds_toArray, List.set_cons_zero, List.set_cons_succ]
        refine wpAnyK_takeTo 22 (some 33) (.bool true) [] rfl rfl (by kernel_rfl) (by kernel_rfl) (by kernel_rfl) (by kernel_rfl) (fun _ _ _ h => h) hS (Or.inl ⟨rfl, fun w1 hw1 => by go_simp⟩) ?_
        simp only [Act.put, List.setIfInBounds_toArray, List.set_cons_zero, List.set_cons_succ]
        refine wpAnyK_done (by kernel_rfl) ?_ _
        replace x1 := (hSx _ hS).2.2.1
        clear hS hSx c2 f1 y0 y1 x2
        go_wp2_with fail
        refine (HBh.out e2 t2 l2 k2 L2 ks2 hi2 hN2 hK2 hrl2 _ FW).mono ?_
        rintro en w' hQ
        obtain ⟨p', lv', kv', L', ks', j', d', rfl, hQ⟩ := hQ
        have HRES := hide hQ
        clear hQ
        go_wp2_with fail
        go_end0
        exact ⟨p', lv', kv', L', ks', j', d', rfl, HRES.out⟩
      · have hr2 : decide (o ≤ L2.length) = false := decide_eq_false hrl2
        have hg2 : decide ((i : Int) < (n : Int)) = true := decide_eq_true (by omega)
        have hlt : i < n := by omega
        obtain ⟨i1, hi1⟩ : ∃ i1, i1 = i + 1 := ⟨_, rfl⟩
        have hi1' : (i : Int) + 1 = (i1 : Int) := by omega
        have hi1m : i1 < m := by have := HMN.out; omega
        have c2 := HKC.out (i + 1) e2 hi2
        rw [← hi1] at c2
        have HI1 := hide hi1
        clear hi1
        go_wp2_with fail
        refine wp_region_K (fun _ => true) (fun U : World => Fr Wd.drew U (fun _ => False)) (by kernel_rfl) ?_
        obtain ⟨We, hWe⟩ : ∃ We, We = Wd.drew := ⟨_, rfl⟩
        have FW : Fr w We (fun _ => False) := by rw [hWe]; exact FV.two (Fr.drew _ _)
        rw [← hWe]
        clear hWe
        have hS : (fun U : World => Fr We U (fun _ => False)) We := Fr.refl _ _
        have hSx : ∀ V, Fr We V (fun _ => False) → V.cell? ⟨tb, 0, none⟩ = some (.int .i64 (o : Int)) ∧ V.cell? ⟨tb, 1, none⟩ = some (.int .i64 cnt) ∧ V.cell? ⟨pg, 1, none⟩ = some (.slice la n lc) ∧ V.cell? ⟨pg, 2, none⟩ = some (.slice (some ⟨gk, 0, none⟩) m kc') ∧ V.cell? ⟨gk, i1, none⟩ = some (.pointer (some ⟨e2.g, 0, none⟩)) ∧ True := fun V hV => by
          have hd := FW.two hV
          exact ⟨hd.cell (fun h => h) y0, hd.cell (fun h => h) y1, hd.cell (fun h => h) x1, hd.cell (fun h => h) x2, hd.cell (fun h => h) c2, trivial⟩
        refine wpAnyK_takeTo 0 (some 34) (.int .i64 (i : Int)) [6, 7, 8, 9, 10, 11, 12, 13, 14, 15, 16, 17, 18, 19, 20, 21, 22] rfl rfl (by kernel_rfl) (by kernel_rfl) (by kernel_rfl) (by kernel_rfl) (fun _ _ _ h => h) hS (Or.inl ⟨rfl, fun w1 hw1 => by obtain ⟨q0, q1, q2, q3, q4, _⟩ := hSx _ hw1; go_simp <;> (first | (rw [wrap_nat (by omega)]) | omega | exact HI0.out)⟩) ?_
        simp only [Act.put, List.setIfInBounds_toArray, List.set_cons_zero, List.set_cons_succ]
        refine wpAnyK_takeTo 1 (some 35) (.pointer (some ⟨pg, 0, none⟩)) [2, 3, 4, 5, 6, 7, 8, 9, 10, 11, 12, 13, 14, 15, 16, 17, 18, 19, 20, 21, 22] rfl rfl (by kernel_rfl) (by kernel_rfl) (by kernel_rfl) (by kernel_rfl) (fun _ _ _ h => h) hS (Or.inl ⟨rfl, fun w1 hw1 => by obtain ⟨q0, q1, q2, q3, q4, _⟩ := hSx _ hw1; go_simp <;> (first | (rw [wrap_nat (by omega)]) | omega | exact HI0.out)⟩) ?_
        simp only [Act.put, List.setIfInBounds_toArray, List.set_cons_zero, List.set_cons_succ]
        refine wpAnyK_takeTo 2 (some 36) (.pointer (some ⟨pg, 0, none⟩)) [3, 4, 5, 6, 7, 8, 9, 10, 11, 12, 13, 14, 15, 16, 17, 18, 19, 20, 21, 22] rfl rfl (by kernel_rfl) (by kernel_rfl) (by kernel_rfl) (by kernel_rfl) (fun _ _ _ h => h) hS (Or.inl ⟨rfl, fun w1 hw1 => by obtain ⟨q0, q1, q2, q3, q4, _⟩ := hSx _ hw1; go_simp <;> (first | (rw [wrap_nat (by omega)]) | omega | exact HI0.out)⟩) ?_
        simp only [Act.put, List.setIfInBounds_toArray, List.set_cons_zero, List.set_cons_succ]
        refine wpAnyK_takeTo 3 (some 37) (.pointer (some ⟨pg, 1, none⟩)) [4, 5, 6, 7, 8, 9, 10, 11, 12, 13, 14, 15, 16, 17, 18, 19, 20, 21, 22] rfl rfl (by kernel_rfl) (by kernel_rfl) (by kernel_rfl) (by kernel_rfl) (fun _ _ _ h => h) hS (Or.inl ⟨rfl, fun w1 hw1 => by obtain ⟨q0, q1, q2, q3, q4, _⟩ := hSx _ hw1; go_simp <;> (first | (rw [wrap_nat (by omega)]) | omega | exact HI0.out)⟩) ?_
        simp only [Act.put, List.setIfInBounds_toArray, List.set_cons_zero, List.set_cons_succ]
        refine wpAnyK_takeTo 4 (some 38) (.slice la n lc) [5, 6, 7, 8, 9, 10, 11, 12, 13, 14, 15, 16, 17, 18, 19, 20, 21, 22] rfl rfl (by kernel_rfl) (by kernel_rfl) (by kernel_rfl) (by kernel_rfl) (fun _ _ _ h => h) hS (Or.inl ⟨rfl, fun w1 hw1 => by obtain ⟨q0, q1, q2, q3, q4, _⟩ := hSx _ hw1; go_simp <;> (first | (rw [wrap_nat (by omega)]) | omega | exact HI0.out)⟩) ?_
        simp only [Act.put, List.setIfInBounds_toArray, List.set_cons_zero, List.set_cons_succ]
        refine wpAnyK_takeTo 5 (some 39) (.int .i64 (n : Int)) [6, 7, 8, 9, 10, 11, 12, 13, 14, 15, 16, 17, 18, 19, 20, 21, 22] rfl rfl (by kernel_rfl) (by kernel_rfl) (by kernel_rfl) (by kernel_rfl) (fun _ _ _ h => h) hS (Or.inl ⟨rfl, fun w1 hw1 => by obtain ⟨q0, q1, q2, q3, q4, _⟩ := hSx _ hw1; go_simp <;> (first | (rw [wrap_nat (by omega)]) | omega | exact HI0.out)⟩) ?_
        simp only [Act.put, List.setIfInBounds_toArray, List.set_cons_zero, List.set_cons_succ]
        refine wpAnyK_takeTo 6 (some 40) (.bool true) [7, 8, 9, 10, 11, 12, 13, 14, 15, 16, 17, 18, 19, 20, 21, 22] rfl rfl (by kernel_rfl) (by kernel_rfl) (by kernel_rfl) (by kernel_rfl) (fun _ _ _ h => h) hS (Or.inl ⟨rfl, fun w1 hw1 => by obtain ⟨q0, q1, q2, q3, q4, _⟩ := hSx _ hw1; go_simp <;> (first | (rw [wrap_nat (by omega)]) | omega | exact HI0.out)⟩) ?_
        simp only [Act.put, List.setIfInBounds_toArray, List.set_cons_zero, List.set_cons_succ]
        refine wpAnyK_takeTo 7 (some 41) (.bool true) [8, 9, 10, 11, 12, 13, 14, 15, 16, 17, 18, 19, 20, 21, 22] rfl rfl (by kernel_rfl) (by kernel_rfl) (by kernel_rfl) (by kernel_rfl) (fun _ _ _ h => h) hS (Or.inl ⟨rfl, fun w1 hw1 => by obtain ⟨q0, q1, q2, q3, q4, _⟩ := hSx _ hw1; go_simp <;> (first | (rw [wrap_nat (by omega)]) | omega | exact HI0.out)⟩) ?_
        simp only [Act.put, List.setIfInBounds_toArray, List.set_cons_zero, List.set_cons_succ]
        refine wpAnyK_takeTo 8 (some 42) (.pointer (some ⟨tb, 0, none⟩)) [9, 10, 11, 20, 21, 22] rfl rfl (by kernel_rfl) (by kernel_rfl) (by kernel_rfl) (by kernel_rfl) (fun _ _ _ h => h) hS (Or.inl ⟨rfl, fun w1 hw1 => by obtain ⟨q0, q1, q2, q3, q4, _⟩ := hSx _ hw1; go_simp <;> (first | (rw [wrap_nat (by omega)]) | omega | exact HI0.out)⟩) ?_
        simp only [Act.put, List.setIfInBounds_toArray, List.set_cons_zero, List.set_cons_succ]
        refine wpAnyK_takeTo 9 (some 43) (.pointer (some ⟨tb, 0, none⟩)) [10, 11, 20, 21, 22] rfl rfl (by kernel_rfl) (by kernel_rfl) (by kernel_rfl) (by kernel_rfl) (fun _ _ _ h => h) hS (Or.inl ⟨rfl, fun w1 hw1 => by obtain ⟨q0, q1, q2, q3, q4, _⟩ := hSx _ hw1; go_simp <;> (first | (rw [wrap_nat (by omega)]) | omega | exact HI0.out)⟩) ?_
        simp only [Act.put, List.setIfInBounds_toArray, List.set_cons_zero, List.set_cons_succ]
        refine wpAnyK_takeTo 10 (some 44) (.pointer (some ⟨tb, 0, none⟩)) [11, 20, 21, 22] rfl rfl (by kernel_rfl) (by kernel_rfl) (by kernel_rfl) (by kernel_rfl) (fun _ _ _ h => h) hS (Or.inl ⟨rfl, fun w1 hw1 => by obtain ⟨q0, q1, q2, q3, q4, _⟩ := hSx _ hw1; go_simp <;> (first | (rw [wrap_nat (by omega)]) | omega | exact HI0.out)⟩) ?_
        simp only [Act.put, List.setIfInBounds_toArray, List.set_cons_zero, List.set_cons_succ]
        refine wpAnyK_takeTo 11 (some 45) (.agg #[.int .i64 (o : Int), .int .i64 cnt]) [20, 21, 22] rfl rfl (by kernel_rfl) (by kernel_rfl) (by kernel_rfl) (by kernel_rfl) (fun _ _ _ h => h) hS (Or.inl ⟨rfl, fun w1 hw1 => by obtain ⟨q0, q1, q2, q3, q4, _⟩ := hSx _ hw1; go_simp <;> (first | (rw [wrap_nat (by omega)]) | omega | exact HI0.out)⟩) ?_
        simp only [Act.put, List.setIfInBounds_toArray, List.set_cons_zero, List.set_cons_succ]
        refine wpAnyK_takeTo 12 (some 46) (.pointer (some ⟨pg, 0, none⟩)) [13, 14, 15, 18, 19, 20, 21, 22] rfl rfl (by kernel_rfl) (by kernel_rfl) (by kernel_rfl) (by kernel_rfl) (fun _ _ _ h => h) hS (Or.inl ⟨rfl, fun w1 hw1 => by obtain ⟨q0, q1, q2, q3, q4, _⟩ := hSx _ hw1; go_simp <;> (first | (rw [wrap_nat (by omega)]) | omega | exact HI0.out)⟩) ?_
        simp only [Act.put, List.setIfInBounds_toArray, List.set_cons_zero, List.set_cons_succ]
        refine wpAnyK_takeTo 13 (some 47) (.pointer (some ⟨pg, 0, none⟩)) [14, 15, 18, 19, 20, 21, 22] rfl rfl (by kernel_rfl) (by kernel_rfl) (by kernel_rfl) (by kernel_rfl) (fun _ _ _ h => h) hS (Or.inl ⟨rfl, fun w1 hw1 => by obtain ⟨q0, q1, q2, q3, q4, _⟩ := hSx _ hw1; go_simp <;> (first | (rw [wrap_nat (by omega)]) | omega | exact HI0.out)⟩) ?_
        simp only [Act.put, List.setIfInBounds_toArray, List.set_cons_zero, List.set_cons_succ]
        refine wpAnyK_takeTo 14 (some 48) (.pointer (some ⟨pg, 2, none⟩)) [15, 18, 19, 20, 21, 22] rfl rfl (by kernel_rfl) (by kernel_rfl) (by kernel_rfl) (by kernel_rfl) (fun _ _ _ h => h) hS (Or.inl ⟨rfl, fun w1 hw1 => by obtain ⟨q0, q1, q2, q3, q4, _⟩ := hSx _ hw1; go_simp <;> (first | (rw [wrap_nat (by omega)]) | omega | exact HI0.out)⟩) ?_
        simp only [Act.put, List.setIfInBounds_toArray, List.set_cons_zero, List.set_cons_succ]
        refine wpAnyK_takeTo 15 (some 49) (.slice (some ⟨gk, 0, none⟩) m kc') [18, 19, 20, 21, 22] rfl rfl (by kernel_rfl) (by kernel_rfl) (by kernel_rfl) (by kernel_rfl) (fun _ _ _ h => h) hS (Or.inl ⟨rfl, fun w1 hw1 => by obtain ⟨q0, q1, q2, q3, q4, _⟩ := hSx _ hw1; go_simp <;> (first | (rw [wrap_nat (by omega)]) | omega | exact HI0.out)⟩) ?_
        simp only [Act.put, List.setIfInBounds_toArray, List.set_cons_zero, List.set_cons_succ]
        refine wpAnyK_takeTo 16 (some 50) (.int .i64 (i : Int)) [17, 18, 19, 20, 21, 22] rfl rfl (by kernel_rfl) (by kernel_rfl) (by kernel_rfl) (by kernel_rfl) (fun _ _ _ h => h) hS (Or.inl ⟨rfl, fun w1 hw1 => by obtain ⟨q0, q1, q2, q3, q4, _⟩ := hSx _ hw1; go_simp <;> (first | (rw [wrap_nat (by omega)]) | omega | exact HI0.out)⟩) ?_
        simp only [Act.put, List.setIfInBounds_toArray, List.set_cons_zero, List.set_cons_succ]
        refine wpAnyK_takeTo 17 (some 51) (.int .i64 (i1 : Int)) [18, 19, 20, 21, 22] rfl rfl (by kernel_rfl) (by kernel_rfl) (by kernel_rfl) (by kernel_rfl) (fun _ _ _ h => h) hS (Or.inl ⟨rfl, fun w1 hw1 => by obtain ⟨q0, q1, q2, q3, q4, _⟩ := hSx _ hw1; go_simp <;> (first | (rw [wrap_nat (by omega)]) | omega | exact HI0.out)⟩) ?_
        simp only [Act.put, List.setIfInBounds_toArray, List.set_cons_zero, List.set_cons_succ]
        refine wpAnyK_takeTo 18 (some 52) (.pointer (some ⟨gk, i1, none⟩)) [19, 20, 21, 22] rfl rfl (by kernel_rfl) (by kernel_rfl) (by kernel_rfl) (by kernel_rfl) (fun _ _ _ h => h) hS (Or.inl ⟨rfl, fun w1 hw1 => by obtain ⟨q0, q1, q2, q3, q4, _⟩ := hSx _ hw1; go_simp <;> (first | (rw [wrap_nat (by omega)]) | omega | exact HI0.out)⟩) ?_
        simp only [Act.put, List.setIfInBounds_toArray, List.set_cons_zero, List.set_cons_succ]
        refine wpAnyK_takeTo 19 (some 53) (.pointer (some ⟨e2.g, 0, none⟩)) [20, 21, 22] rfl rfl (by kernel_rfl) (by kernel_rfl) (by kernel_rfl) (by kernel_rfl) (fun _ _ _ h => h) hS (Or.inl ⟨rfl, fun w1 hw1 => by obtain ⟨q0, q1, q2, q3, q4, _⟩ := hSx _ hw1; go_simp <;> (first | (rw [wrap_nat (by omega)]) | omega | exact HI0.out)⟩) ?_
        simp only [Act.put, List.setIfInBounds_toArray, List.set_cons_zero, List.set_cons_succ]
        refine wpAnyK_one (i := 20) (by kernel_rfl) rfl rfl ?_
        refine wp_call_to (some 54) rfl 57 #[.agg #[.int .i64 (o : Int), .int .i64 cnt], .pointer (some ⟨e2.g, 0, none⟩)] (by go_simp) (rich_any (hN2.toNodeP.fr FW (fun _ _ h => h)) o (by omega) ho cnt) ?_
        rintro en W3 ⟨rfl, f1⟩
        have hS1 : (fun U : World => Fr We U (fun _ => False)) W3 := f1
        rw [hr2]
        refine ⟨_, rfl, fun _ => hS1, ?_⟩
        simp only [Act.put, List.setIfInBounds_toArray, List.set_cons_zero, List.set_cons_succ]
        replace hS := hS1
        replace FW := FW.two f1
        clear hS1
        refine wpAnyK_takeTo 21 (some 55) (.bool false) [22] rfl rfl (by kernel_rfl) (by kernel_rfl) (by kernel_rfl) (by kernel_rfl) (fun _ _ _ h => h) hS (Or.inl ⟨rfl, fun w1 hw1 => by go_simp⟩) ?_
        simp only [Act.put, List.setIfInBounds_toArray, List.set_cons_zero, List.set_cons_succ]
        refine wpAnyK_takeTo 22 (some 33) (.bool false) [] rfl rfl (by kernel_rfl) (by kernel_rfl) (by kernel_rfl) (by kernel_rfl) (fun _ _ _ h => h) hS (Or.inl ⟨rfl, fun w1 hw1 => by go_simp⟩) ?_
        simp only [Act.put, List.setIfInBounds_toArray, List.set_cons_zero, List.set_cons_succ]
        refine wpAnyK_done (by kernel_rfl) ?_ _
        replace x1 := (hSx _ hS).2.2.1
        clear hS hSx c2 f1 y0 y1 x2
        go_wp2_with fail
        refine (HCh.out e2 t2 l2 k2 L2 ks2 hi2 hN2 hK2 (by have := hN2.low; omega) _ FW).mono ?_
        rintro en w' hQ
        obtain ⟨p', lv', kv', L', ks', j', d', rfl, hQ⟩ := hQ
        have HRES := hide hQ
        clear hQ
        go_wp2_with fail
        go_end0
        exact ⟨p', lv', kv', L', ks', j', d', rfl, HRES.out⟩
  · obtain ⟨j, hij⟩ : ∃ j, i = j + 1 := ⟨i - 1, by omega⟩
    obtain ⟨e0, hj0⟩ : ∃ e0, ks[j]? = some e0 := ⟨_, List.getElem?_eq_getElem (by rw [HLM.out]; omega)⟩
    obtain ⟨t0, l0, k0, L0, ks0, hN0, hK0⟩ := HSUB.out j e0 hj0
    by_cases hrl : o ≤ L0.length
    · have hr0 : decide (o ≤ L0.length) = true := decide_eq_true hrl
      have hg : decide ((i : Int) > 0) = true := decide_eq_true (by omega)
      have hg' : decide ((0 : Int) < (i : Int)) = true := hg
      have hij' : (i : Int) - 1 = (j : Int) := by omega
      have hjm : j < m := by omega
      have cj := HKC.out j e0 hj0
      have HIJ := hide hij
      clear hij hi0
      go_wp2_with fail
      refine wp_region_K (fun _ => true) (fun U : World => Fr w.drew U (fun _ => False)) (by kernel_rfl) ?_
      obtain ⟨Wd, hWd⟩ : ∃ Wd, Wd = w.drew := ⟨_, rfl⟩
      have FV : Fr w Wd (fun _ => False) := by rw [hWd]; exact Fr.drew _ _
      rw [← hWd]
      clear hWd
      have hS : (fun U : World => Fr Wd U (fun _ => False)) Wd := Fr.refl _ _
      have hSx : ∀ V, Fr Wd V (fun _ => False) → V.cell? ⟨tb, 0, none⟩ = some (.int .i64 (o : Int)) ∧ V.cell? ⟨tb, 1, none⟩ = some (.int .i64 cnt) ∧ V.cell? ⟨pg, 1, none⟩ = some (.slice la n lc) ∧ V.cell? ⟨pg, 2, none⟩ = some (.slice (some ⟨gk, 0, none⟩) m kc') ∧ V.cell? ⟨gk, j, none⟩ = some (.pointer (some ⟨e0.g, 0, none⟩)) ∧ True := fun V hV => by
        have hd := FV.two hV
        exact ⟨hd.cell (fun h => h) y0, hd.cell (fun h => h) y1, hd.cell (fun h => h) x1, hd.cell (fun h => h) x2, hd.cell (fun h => h) cj, trivial⟩
      refine wpAnyK_takeTo 0 (some 12) (.int .i64 (i : Int)) [1, 2, 3, 4, 5, 6, 7, 8, 9, 10, 11, 12, 13, 14, 15, 16, 17] rfl rfl (by kernel_rfl) (by kernel_rfl) (by kernel_rfl) (by kernel_rfl) (fun _ _ _ h => h) hS (Or.inl ⟨rfl, fun w1 hw1 => by obtain ⟨q0, q1, q2, q3, q4, _⟩ := hSx _ hw1; go_simp <;> (first | (rw [wrap_nat (by omega)]) | omega | exact HI0.out)⟩) ?_
      simp only [Act.put, List.setIfInBounds_toArray, List.set_cons_zero, List.set_cons_succ]
      refine wpAnyK_takeTo 1 (some 13) (.bool true) [2, 3, 4, 5, 6, 7, 8, 9, 10, 11, 12, 13, 14, 15, 16, 17] rfl rfl (by kernel_rfl) (by kernel_rfl) (by kernel_rfl) (by kernel_rfl) (fun _ _ _ h => h) hS (Or.inl ⟨rfl, fun w1 hw1 => by obtain ⟨q0, q1, q2, q3, q4, _⟩ := hSx _ hw1; go_simp <;> (first | (rw [wrap_nat (by omega)]) | omega | exact HI0.out)⟩) ?_
      simp only [Act.put, List.setIfInBounds_toArray, List.set_cons_zero, List.set_cons_succ]
      refine wpAnyK_takeTo 2 (some 14) (.bool true) [3, 4, 5, 6, 7, 8, 9, 10, 11, 12, 13, 14, 15, 16, 17] rfl rfl (by kernel_rfl) (by kernel_rfl) (by kernel_rfl) (by kernel_rfl) (fun _ _ _ h => h) hS (Or.inl ⟨rfl, fun w1 hw1 => by obtain ⟨q0, q1, q2, q3, q4, _⟩ := hSx _ hw1; go_simp <;> (first | (rw [wrap_nat (by omega)]) | omega | exact HI0.out)⟩) ?_
      simp only [Act.put, List.setIfInBounds_toArray, List.set_cons_zero, List.set_cons_succ]
      refine wpAnyK_takeTo 3 (some 15) (.pointer (some ⟨tb, 0, none⟩)) [4, 5, 6, 15, 16, 17] rfl rfl (by kernel_rfl) (by kernel_rfl) (by kernel_rfl) (by kernel_rfl) (fun _ _ _ h => h) hS (Or.inl ⟨rfl, fun w1 hw1 => by obtain ⟨q0, q1, q2, q3, q4, _⟩ := hSx _ hw1; go_simp <;> (first | (rw [wrap_nat (by omega)]) | omega | exact HI0.out)⟩) ?_
      simp only [Act.put, List.setIfInBounds_toArray, List.set_cons_zero, List.set_cons_succ]
      refine wpAnyK_takeTo 4 (some 16) (.pointer (some ⟨tb, 0, none⟩)) [5, 6, 15, 16, 17] rfl rfl (by kernel_rfl) (by kernel_rfl) (by kernel_rfl) (by kernel_rfl) (fun _ _ _ h => h) hS (Or.inl ⟨rfl, fun w1 hw1 => by obtain ⟨q0, q1, q2, q3, q4, _⟩ := hSx _ hw1; go_simp <;> (first | (rw [wrap_nat (by omega)]) | omega | exact HI0.out)⟩) ?_
      simp only [Act.put, List.setIfInBounds_toArray, List.set_cons_zero, List.set_cons_succ]
      refine wpAnyK_takeTo 5 (some 17) (.pointer (some ⟨tb, 0, none⟩)) [6, 15, 16, 17] rfl rfl (by kernel_rfl) (by kernel_rfl) (by kernel_rfl) (by kernel_rfl) (fun _ _ _ h => h) hS (Or.inl ⟨rfl, fun w1 hw1 => by obtain ⟨q0, q1, q2, q3, q4, _⟩ := hSx _ hw1; go_simp <;> (first | (rw [wrap_nat (by omega)]) | omega | exact HI0.out)⟩) ?_
      simp only [Act.put, List.setIfInBounds_toArray, List.set_cons_zero, List.set_cons_succ]
      refine wpAnyK_takeTo 6 (some 18) (.agg #[.int .i64 (o : Int), .int .i64 cnt]) [15, 16, 17] rfl rfl (by kernel_rfl) (by kernel_rfl) (by kernel_rfl) (by kernel_rfl) (fun _ _ _ h => h) hS (Or.inl ⟨rfl, fun w1 hw1 => by obtain ⟨q0, q1, q2, q3, q4, _⟩ := hSx _ hw1; go_simp <;> (first | (rw [wrap_nat (by omega)]) | omega | exact HI0.out)⟩) ?_
      simp only [Act.put, List.setIfInBounds_toArray, List.set_cons_zero, List.set_cons_succ]
      refine wpAnyK_takeTo 7 (some 19) (.pointer (some ⟨pg, 0, none⟩)) [8, 9, 10, 13, 14, 15, 16, 17] rfl rfl (by kernel_rfl) (by kernel_rfl) (by kernel_rfl) (by kernel_rfl) (fun _ _ _ h => h) hS (Or.inl ⟨rfl, fun w1 hw1 => by obtain ⟨q0, q1, q2, q3, q4, _⟩ := hSx _ hw1; go_simp <;> (first | (rw [wrap_nat (by omega)]) | omega | exact HI0.out)⟩) ?_
      simp only [Act.put, List.setIfInBounds_toArray, List.set_cons_zero, List.set_cons_succ]
      refine wpAnyK_takeTo 8 (some 20) (.pointer (some ⟨pg, 0, none⟩)) [9, 10, 13, 14, 15, 16, 17] rfl rfl (by kernel_rfl) (by kernel_rfl) (by kernel_rfl) (by kernel_rfl) (fun _ _ _ h => h) hS (Or.inl ⟨rfl, fun w1 hw1 => by obtain ⟨q0, q1, q2, q3, q4, _⟩ := hSx _ hw1; go_simp <;> (first | (rw [wrap_nat (by omega)]) | omega | exact HI0.out)⟩) ?_
      simp only [Act.put, List.setIfInBounds_toArray, List.set_cons_zero, List.set_cons_succ]
      refine wpAnyK_takeTo 9 (some 21) (.pointer (some ⟨pg, 2, none⟩)) [10, 13, 14, 15, 16, 17] rfl rfl (by kernel_rfl) (by kernel_rfl) (by kernel_rfl) (by kernel_rfl) (fun _ _ _ h => h) hS (Or.inl ⟨rfl, fun w1 hw1 => by obtain ⟨q0, q1, q2, q3, q4, _⟩ := hSx _ hw1; go_simp <;> (first | (rw [wrap_nat (by omega)]) | omega | exact HI0.out)⟩) ?_
      simp only [Act.put, List.setIfInBounds_toArray, List.set_cons_zero, List.set_cons_succ]
      refine wpAnyK_takeTo 10 (some 22) (.slice (some ⟨gk, 0, none⟩) m kc') [13, 14, 15, 16, 17] rfl rfl (by kernel_rfl) (by kernel_rfl) (by kernel_rfl) (by kernel_rfl) (fun _ _ _ h => h) hS (Or.inl ⟨rfl, fun w1 hw1 => by obtain ⟨q0, q1, q2, q3, q4, _⟩ := hSx _ hw1; go_simp <;> (first | (rw [wrap_nat (by omega)]) | omega | exact HI0.out)⟩) ?_
      simp only [Act.put, List.setIfInBounds_toArray, List.set_cons_zero, List.set_cons_succ]
      refine wpAnyK_takeTo 11 (some 23) (.int .i64 (i : Int)) [12, 13, 14, 15, 16, 17] rfl rfl (by kernel_rfl) (by kernel_rfl) (by kernel_rfl) (by kernel_rfl) (fun _ _ _ h => h) hS (Or.inl ⟨rfl, fun w1 hw1 => by obtain ⟨q0, q1, q2, q3, q4, _⟩ := hSx _ hw1; go_simp <;> (first | (rw [wrap_nat (by omega)]) | omega | exact HI0.out)⟩) ?_
      simp only [Act.put, List.setIfInBounds_toArray, List.set_cons_zero, List.set_cons_succ]
      refine wpAnyK_takeTo 12 (some 24) (.int .i64 (j : Int)) [13, 14, 15, 16, 17] rfl rfl (by kernel_rfl) (by kernel_rfl) (by kernel_rfl) (by kernel_rfl) (fun _ _ _ h => h) hS (Or.inl ⟨rfl, fun w1 hw1 => by obtain ⟨q0, q1, q2, q3, q4, _⟩ := hSx _ hw1; go_simp <;> (first | (rw [wrap_nat (by omega)]) | omega | exact HI0.out)⟩) ?_
      simp only [Act.put, List.setIfInBounds_toArray, List.set_cons_zero, List.set_cons_succ]
      refine wpAnyK_takeTo 13 (some 25) (.pointer (some ⟨gk, j, none⟩)) [14, 15, 16, 17] rfl rfl (by kernel_rfl) (by kernel_rfl) (by kernel_rfl) (by kernel_rfl) (fun _ _ _ h => h) hS (Or.inl ⟨rfl, fun w1 hw1 => by obtain ⟨q0, q1, q2, q3, q4, _⟩ := hSx _ hw1; go_simp <;> (first | (rw [wrap_nat (by omega)]) | omega | exact HI0.out)⟩) ?_
      simp only [Act.put, List.setIfInBounds_toArray, List.set_cons_zero, List.set_cons_succ]
      refine wpAnyK_takeTo 14 (some 26) (.pointer (some ⟨e0.g, 0, none⟩)) [15, 16, 17] rfl rfl (by kernel_rfl) (by kernel_rfl) (by kernel_rfl) (by kernel_rfl) (fun _ _ _ h => h) hS (Or.inl ⟨rfl, fun w1 hw1 => by obtain ⟨q0, q1, q2, q3, q4, _⟩ := hSx _ hw1; go_simp <;> (first | (rw [wrap_nat (by omega)]) | omega | exact HI0.out)⟩) ?_
      simp only [Act.put, List.setIfInBounds_toArray, List.set_cons_zero, List.set_cons_succ]
      refine wpAnyK_one (i := 15) (by kernel_rfl) rfl rfl ?_
      refine wp_call_to (some 27) rfl 57 #[.agg #[.int .i64 (o : Int), .int .i64 cnt], .pointer (some ⟨e0.g, 0, none⟩)] (by go_simp) (rich_any (hN0.toNodeP.fr FV (fun _ _ h => h)) o (by omega) ho cnt) ?_
      rintro en W1 ⟨rfl, f1⟩
      have hS1 : (fun U : World => Fr Wd U (fun _ => False)) W1 := f1
      rw [hr0]
      refine ⟨_, rfl, fun _ => hS1, ?_⟩
      simp only [Act.put, List.setIfInBounds_toArray, List.set_cons_zero, List.set_cons_succ]
      replace hS := hS1
      replace FV := FV.two f1
      clear hS1
      refine wpAnyK_takeTo 16 (some 28) (.bool true) [17] rfl rfl (by kernel_rfl) (by kernel_rfl) (by kernel_rfl) (by kernel_rfl) (fun _ _ _ h => h) hS (Or.inl ⟨rfl, fun w1 hw1 => by go_simp⟩) ?_
      simp only [Act.put, List.setIfInBounds_toArray, List.set_cons_zero, List.set_cons_succ]
      refine wpAnyK_takeTo 17 (some 11) (.bool true) [] rfl rfl (by kernel_rfl) (by kernel_rfl) (by kernel_rfl) (by kernel_rfl) (fun _ _ _ h => h) hS (Or.inl ⟨rfl, fun w1 hw1 => by go_simp⟩) ?_
      simp only [Act.put, List.setIfInBounds_toArray, List.set_cons_zero, List.set_cons_succ]
      refine wpAnyK_done (by kernel_rfl) ?_ _
      clear hS hSx hg hg' cj f1
      go_wp2_with fail
      refine (HAh.out j e0 t0 l0 k0 L0 ks0 HIJ.out hj0 hN0 hK0 hrl _ FV).mono ?_
      rintro en w' hQ
      obtain ⟨p', lv', kv', L', ks', j', d', rfl, hQ⟩ := hQ
      have HRES := hide hQ
      clear hQ
      go_wp2_with fail
      go_end0
      exact ⟨p', lv', kv', L', ks', j', d', rfl, HRES.out⟩
    · have hr0 : decide (o ≤ L0.length) = false := decide_eq_false hrl
      have hl0 := hN0.low
      have hg : decide ((i : Int) > 0) = true := decide_eq_true (by omega)
      have hg' : decide ((0 : Int) < (i : Int)) = true := hg
      have hij' : (i : Int) - 1 = (j : Int) := by omega
      have hjm : j < m := by omega
      have cj := HKC.out j e0 hj0
      have HIJ := hide hij
      clear hij hi0
      go_wp2_with fail
      refine wp_region_K (fun _ => true) (fun U : World => Fr w.drew U (fun _ => False)) (by kernel_rfl) ?_
      obtain ⟨Wd, hWd⟩ : ∃ Wd, Wd = w.drew := ⟨_, rfl⟩
      have FV : Fr w Wd (fun _ => False) := by rw [hWd]; exact Fr.drew _ _
      rw [← hWd]
      clear hWd
      have hS : (fun U : World => Fr Wd U (fun _ => False)) Wd := Fr.refl _ _
      have hSx : ∀ V, Fr Wd V (fun _ => False) → V.cell? ⟨tb, 0, none⟩ = some (.int .i64 (o : Int)) ∧ V.cell? ⟨tb, 1, none⟩ = some (.int .i64 cnt) ∧ V.cell? ⟨pg, 1, none⟩ = some (.slice la n lc) ∧ V.cell? ⟨pg, 2, none⟩ = some (.slice (some ⟨gk, 0, none⟩) m kc') ∧ V.cell? ⟨gk, j, none⟩ = some (.pointer (some ⟨e0.g, 0, none⟩)) ∧ True := fun V hV => by
        have hd := FV.two hV
        exact ⟨hd.cell (fun h => h) y0, hd.cell (fun h => h) y1, hd.cell (fun h => h) x1, hd.cell (fun h => h) x2, hd.cell (fun h => h) cj, trivial⟩
      refine wpAnyK_takeTo 0 (some 12) (.int .i64 (i : Int)) [1, 2, 3, 4, 5, 6, 7, 8, 9, 10, 11, 12, 13, 14, 15, 16, 17] rfl rfl (by kernel_rfl) (by kernel_rfl) (by kernel_rfl) (by kernel_rfl) (fun _ _ _ h => h) hS (Or.inl ⟨rfl, fun w1 hw1 => by obtain ⟨q0, q1, q2, q3, q4, _⟩ := hSx _ hw1; go_simp <;> (first | (rw [wrap_nat (by omega)]) | omega | exact HI0.out)⟩) ?_
      simp only [Act.put, List.setIfInBounds_toArray, List.set_cons_zero, List.set_cons_succ]
      refine wpAnyK_takeTo 1 (some 13) (.bool true) [2, 3, 4, 5, 6, 7, 8, 9, 10, 11, 12, 13, 14, 15, 16, 17] rfl rfl (by kernel_rfl) (by kernel_rfl) (by kernel_rfl) (by kernel_rfl) (fun _ _ _ h => h) hS (Or.inl ⟨rfl, fun w1 hw1 => by obtain ⟨q0, q1, q2, q3, q4, _⟩ := hSx _ hw1; go_simp <;> (first | (rw [wrap_nat (by omega)]) | omega | exact HI0.out)⟩) ?_
      simp only [Act.put, List.setIfInBounds_toArray, List.set_cons_zero, List.set_cons_succ]
      refine wpAnyK_takeTo 2 (some 14) (.bool true) [3, 4, 5, 6, 7, 8, 9, 10, 11, 12, 13, 14, 15, 16, 17] rfl rfl (by kernel_rfl) (by kernel_rfl) (by kernel_rfl) (by kernel_rfl) (fun _ _ _ h => h) hS (Or.inl ⟨rfl, fun w1 hw1 => by obtain ⟨q0, q1, q2, q3, q4, _⟩ := hSx _ hw1; go_simp <;> (first | (rw [wrap_nat (by omega)]) | omega | exact HI0.out)⟩) ?_
      simp only [Act.put, List.setIfInBounds_toArray, List.set_cons_zero, List.set_cons_succ]
      refine wpAnyK_takeTo 3 (some 15) (.pointer (some ⟨tb, 0, none⟩)) [4, 5, 6, 15, 16, 17] rfl rfl (by kernel_rfl) (by kernel_rfl) (by kernel_rfl) (by kernel_rfl) (fun _ _ _ h => h) hS (Or.inl ⟨rfl, fun w1 hw1 => by obtain ⟨q0, q1, q2, q3, q4, _⟩ := hSx _ hw1; go_simp <;> (first | (rw [wrap_nat (by omega)]) | omega | exact HI0.out)⟩) ?_
      simp only [Act.put, List.setIfInBounds_toArray, List.set_cons_zero, List.set_cons_succ]
      refine wpAnyK_takeTo 4 (some 16) (.pointer (some ⟨tb, 0, none⟩)) [5, 6, 15, 16, 17] rfl rfl (by kernel_rfl) (by kernel_rfl) (by kernel_rfl) (by kernel_rfl) (fun _ _ _ h => h) hS (Or.inl ⟨rfl, fun w1 hw1 => by obtain ⟨q0, q1, q2, q3, q4, _⟩ := hSx _ hw1; go_simp <;> (first | (rw [wrap_nat (by omega)]) | omega | exact HI0.out)⟩) ?_
      simp only [Act.put, List.setIfInBounds_toArray, List.set_cons_zero, List.set_cons_succ]
      refine wpAnyK_takeTo 5 (some 17) (.pointer (some ⟨tb, 0, none⟩)) [6, 15, 16, 17] rfl rfl (by kernel_rfl) (by kernel_rfl) (by kernel_rfl) (by kernel_rfl) (fun _ _ _ h => h) hS (Or.inl ⟨rfl, fun w1 hw1 => by obtain ⟨q0, q1, q2, q3, q4, _⟩ := hSx _ hw1; go_simp <;> (first | (rw [wrap_nat (by omega)]) | omega | exact HI0.out)⟩) ?_
      simp only [Act.put, List.setIfInBounds_toArray, List.set_cons_zero, List.set_cons_succ]
      refine wpAnyK_takeTo 6 (some 18) (.agg #[.int .i64 (o : Int), .int .i64 cnt]) [15, 16, 17] rfl rfl (by kernel_rfl) (by kernel_rfl) (by kernel_rfl) (by kernel_rfl) (fun _ _ _ h => h) hS (Or.inl ⟨rfl, fun w1 hw1 => by obtain ⟨q0, q1, q2, q3, q4, _⟩ := hSx _ hw1; go_simp <;> (first | (rw [wrap_nat (by omega)]) | omega | exact HI0.out)⟩) ?_
      simp only [Act.put, List.setIfInBounds_toArray, List.set_cons_zero, List.set_cons_succ]
      refine wpAnyK_takeTo 7 (some 19) (.pointer (some ⟨pg, 0, none⟩)) [8, 9, 10, 13, 14, 15, 16, 17] rfl rfl (by kernel_rfl) (by kernel_rfl) (by kernel_rfl) (by kernel_rfl) (fun _ _ _ h => h) hS (Or.inl ⟨rfl, fun w1 hw1 => by obtain ⟨q0, q1, q2, q3, q4, _⟩ := hSx _ hw1; go_simp <;> (first | (rw [wrap_nat (by omega)]) | omega | exact HI0.out)⟩) ?_
      simp only [Act.put, List.setIfInBounds_toArray, List.set_cons_zero, List.set_cons_succ]
      refine wpAnyK_takeTo 8 (some 20) (.pointer (some ⟨pg, 0, none⟩)) [9, 10, 13, 14, 15, 16, 17] rfl rfl (by kernel_rfl) (by kernel_rfl) (by kernel_rfl) (by kernel_rfl) (fun _ _ _ h => h) hS (Or.inl ⟨rfl, fun w1 hw1 => by obtain ⟨q0, q1, q2, q3, q4, _⟩ := hSx _ hw1; go_simp <;> (first | (rw [wrap_nat (by omega)]) | omega | exact HI0.out)⟩) ?_
      simp only [Act.put, List.setIfInBounds_toArray, List.set_cons_zero, List.set_cons_succ]
      refine wpAnyK_takeTo 9 (some 21) (.pointer (some ⟨pg, 2, none⟩)) [10, 13, 14, 15, 16, 17] rfl rfl (by kernel_rfl) (by kernel_rfl) (by kernel_rfl) (by kernel_rfl) (fun _ _ _ h => h) hS (Or.inl ⟨rfl, fun w1 hw1 => by obtain ⟨q0, q1, q2, q3, q4, _⟩ := hSx _ hw1; go_simp <;> (first | (rw [wrap_nat (by omega)]) | omega | exact HI0.out)⟩) ?_
      simp only [Act.put, List.setIfInBounds_toArray, List.set_cons_zero, List.set_cons_succ]
      refine wpAnyK_takeTo 10 (some 22) (.slice (some ⟨gk, 0, none⟩) m kc') [13, 14, 15, 16, 17] rfl rfl (by kernel_rfl) (by kernel_rfl) (by kernel_rfl) (by kernel_rfl) (fun _ _ _ h => h) hS (Or.inl ⟨rfl, fun w1 hw1 => by obtain ⟨q0, q1, q2, q3, q4, _⟩ := hSx _ hw1; go_simp <;> (first | (rw [wrap_nat (by omega)]) | omega | exact HI0.out)⟩) ?_
      simp only [Act.put, List.setIfInBounds_toArray, List.set_cons_zero, List.set_cons_succ]
      refine wpAnyK_takeTo 11 (some 23) (.int .i64 (i : Int)) [12, 13, 14, 15, 16, 17] rfl rfl (by kernel_rfl) (by kernel_rfl) (by kernel_rfl) (by kernel_rfl) (fun _ _ _ h => h) hS (Or.inl ⟨rfl, fun w1 hw1 => by obtain ⟨q0, q1, q2, q3, q4, _⟩ := hSx _ hw1; go_simp <;> (first | (rw [wrap_nat (by omega)]) | omega | exact HI0.out)⟩) ?_
      simp only [Act.put, List.setIfInBounds_toArray, List.set_cons_zero, List.set_cons_succ]
      refine wpAnyK_takeTo 12 (some 24) (.int .i64 (j : Int)) [13, 14, 15, 16, 17] rfl rfl (by kernel_rfl) (by kernel_rfl) (by kernel_rfl) (by kernel_rfl) (fun _ _ _ h => h) hS (Or.inl ⟨rfl, fun w1 hw1 => by obtain ⟨q0, q1, q2, q3, q4, _⟩ := hSx _ hw1; go_simp <;> (first | (rw [wrap_nat (by omega)]) | omega | exact HI0.out)⟩) ?_
      simp only [Act.put, List.setIfInBounds_toArray, List.set_cons_zero, List.set_cons_succ]
      refine wpAnyK_takeTo 13 (some 25) (.pointer (some ⟨gk, j, none⟩)) [14, 15, 16, 17] rfl rfl (by kernel_rfl) (by kernel_rfl) (by kernel_rfl) (by kernel_rfl) (fun _ _ _ h => h) hS (Or.inl ⟨rfl, fun w1 hw1 => by obtain ⟨q0, q1, q2, q3, q4, _⟩ := hSx _ hw1; go_simp <;> (first | (rw [wrap_nat (by omega)]) | omega | exact HI0.out)⟩) ?_
      simp only [Act.put, List.setIfInBounds_toArray, List.set_cons_zero, List.set_cons_succ]
      refine wpAnyK_takeTo 14 (some 26) (.pointer (some ⟨e0.g, 0, none⟩)) [15, 16, 17] rfl rfl (by kernel_rfl) (by kernel_rfl) (by kernel_rfl) (by kernel_rfl) (fun _ _ _ h => h) hS (Or.inl ⟨rfl, fun w1 hw1 => by obtain ⟨q0, q1, q2, q3, q4, _⟩ := hSx _ hw1; go_simp <;> (first | (rw [wrap_nat (by omega)]) | omega | exact HI0.out)⟩) ?_
      simp only [Act.put, List.setIfInBounds_toArray, List.set_cons_zero, List.set_cons_succ]
      refine wpAnyK_one (i := 15) (by kernel_rfl) rfl rfl ?_
      refine wp_call_to (some 27) rfl 57 #[.agg #[.int .i64 (o : Int), .int .i64 cnt], .pointer (some ⟨e0.g, 0, none⟩)] (by go_simp) (rich_any (hN0.toNodeP.fr FV (fun _ _ h => h)) o (by omega) ho cnt) ?_
      rintro en W1 ⟨rfl, f1⟩
      have hS1 : (fun U : World => Fr Wd U (fun _ => False)) W1 := f1
      rw [hr0]
      refine ⟨_, rfl, fun _ => hS1, ?_⟩
      simp only [Act.put, List.setIfInBounds_toArray, List.set_cons_zero, List.set_cons_succ]
      replace hS := hS1
      replace FV := FV.two f1
      clear hS1
      refine wpAnyK_takeTo 16 (some 28) (.bool false) [17] rfl rfl (by kernel_rfl) (by kernel_rfl) (by kernel_rfl) (by kernel_rfl) (fun _ _ _ h => h) hS (Or.inl ⟨rfl, fun w1 hw1 => by go_simp⟩) ?_
      simp only [Act.put, List.setIfInBounds_toArray, List.set_cons_zero, List.set_cons_succ]
      refine wpAnyK_takeTo 17 (some 11) (.bool false) [] rfl rfl (by kernel_rfl) (by kernel_rfl) (by kernel_rfl) (by kernel_rfl) (fun _ _ _ h => h) hS (Or.inl ⟨rfl, fun w1 hw1 => by go_simp⟩) ?_
      simp only [Act.put, List.setIfInBounds_toArray, List.set_cons_zero, List.set_cons_succ]
      refine wpAnyK_done (by kernel_rfl) ?_ _
      clear hS hSx hg hg' cj f1
      by_cases hin' : i = n
      · skip
        have hg2 : decide ((i : Int) < (n : Int)) = false := decide_eq_false (by omega)
        have hni : n ≤ i := by omega
        have HIN := hide hin'
        clear hin'
        go_wp2_with fail
        refine wp_region_K (fun _ => true) (fun U : World => Fr W1.drew U (fun _ => False)) (by kernel_rfl) ?_
        obtain ⟨We, hWe⟩ : ∃ We, We = W1.drew := ⟨_, rfl⟩
        have FW : Fr w We (fun _ => False) := by rw [hWe]; exact FV.two (Fr.drew _ _)
        rw [← hWe]
        clear hWe
        have hS : (fun U : World => Fr We U (fun _ => False)) We := Fr.refl _ _
        have hSx : ∀ V, Fr We V (fun _ => False) → V.cell? ⟨tb, 0, none⟩ = some (.int .i64 (o : Int)) ∧ V.cell? ⟨tb, 1, none⟩ = some (.int .i64 cnt) ∧ V.cell? ⟨pg, 1, none⟩ = some (.slice la n lc) ∧ V.cell? ⟨pg, 2, none⟩ = some (.slice (some ⟨gk, 0, none⟩) m kc') ∧ True := fun V hV => by
          have hd := FW.two hV
          exact ⟨hd.cell (fun h => h) y0, hd.cell (fun h => h) y1, hd.cell (fun h => h) x1, hd.cell (fun h => h) x2, trivial⟩
        refine wpAnyK_takeTo 0 (some 34) (.int .i64 (i : Int)) [6, 7, 8, 9, 10, 11, 12, 13, 14, 15, 16, 17, 18, 19, 20, 21, 22] rfl rfl (by kernel_rfl) (by kernel_rfl) (by kernel_rfl) (by kernel_rfl) (fun _ _ _ h => h) hS (Or.inl ⟨rfl, fun w1 hw1 => by obtain ⟨q0, q1, q2, q3, _⟩ := hSx _ hw1; go_simp <;> (first | (rw [wrap_nat (by omega)]) | omega | exact HI0.out)⟩) ?_
        simp only [Act.put, List.setIfInBounds_toArray, List.set_cons_zero, List.set_cons_succ]
        refine wpAnyK_takeTo 1 (some 35) (.pointer (some ⟨pg, 0, none⟩)) [2, 3, 4, 5, 6, 7, 8, 9, 10, 11, 12, 13, 14, 15, 16, 17, 18, 19, 20, 21, 22] rfl rfl (by kernel_rfl) (by kernel_rfl) (by kernel_rfl) (by kernel_rfl) (fun _ _ _ h => h) hS (Or.inl ⟨rfl, fun w1 hw1 => by obtain ⟨q0, q1, q2, q3, _⟩ := hSx _ hw1; go_simp <;> (first | (rw [wrap_nat (by omega)]) | omega | exact HI0.out)⟩) ?_
        simp only [Act.put, List.setIfInBounds_toArray, List.set_cons_zero, List.set_cons_succ]
        refine wpAnyK_takeTo 2 (some 36) (.pointer (some ⟨pg, 0, none⟩)) [3, 4, 5, 6, 7, 8, 9, 10, 11, 12, 13, 14, 15, 16, 17, 18, 19, 20, 21, 22] rfl rfl (by kernel_rfl) (by kernel_rfl) (by kernel_rfl) (by kernel_rfl) (fun _ _ _ h => h) hS (Or.inl ⟨rfl, fun w1 hw1 => by obtain ⟨q0, q1, q2, q3, _⟩ := hSx _ hw1; go_simp <;> (first | (rw [wrap_nat (by omega)]) | omega | exact HI0.out)⟩) ?_
        simp only [Act.put, List.setIfInBounds_toArray, List.set_cons_zero, List.set_cons_succ]
        refine wpAnyK_takeTo 3 (some 37) (.pointer (some ⟨pg, 1, none⟩)) [4, 5, 6, 7, 8, 9, 10, 11, 12, 13, 14, 15, 16, 17, 18, 19, 20, 21, 22] rfl rfl (by kernel_rfl) (by kernel_rfl) (by kernel_rfl) (by kernel_rfl) (fun _ _ _ h => h) hS (Or.inl ⟨rfl, fun w1 hw1 => by obtain ⟨q0, q1, q2, q3, _⟩ := hSx _ hw1; go_simp <;> (first | (rw [wrap_nat (by omega)]) | omega | exact HI0.out)⟩) ?_
        simp only [Act.put, List.setIfInBounds_toArray, List.set_cons_zero, List.set_cons_succ]
        refine wpAnyK_takeTo 4 (some 38) (.slice la n lc) [5, 6, 7, 8, 9, 10, 11, 12, 13, 14, 15, 16, 17, 18, 19, 20, 21, 22] rfl rfl (by kernel_rfl) (by kernel_rfl) (by kernel_rfl) (by kernel_rfl) (fun _ _ _ h => h) hS (Or.inl ⟨rfl, fun w1 hw1 => by obtain ⟨q0, q1, q2, q3, _⟩ := hSx _ hw1; go_simp <;> (first | (rw [wrap_nat (by omega)]) | omega | exact HI0.out)⟩) ?_
        simp only [Act.put, List.setIfInBounds_toArray, List.set_cons_zero, List.set_cons_succ]
        refine wpAnyK_takeTo 5 (some 39) (.int .i64 (n : Int)) [6, 7, 8, 9, 10, 11, 12, 13, 14, 15, 16, 17, 18, 19, 20, 21, 22] rfl rfl (by kernel_rfl) (by kernel_rfl) (by kernel_rfl) (by kernel_rfl) (fun _ _ _ h => h) hS (Or.inl ⟨rfl, fun w1 hw1 => by obtain ⟨q0, q1, q2, q3, _⟩ := hSx _ hw1; go_simp <;> (first | (rw [wrap_nat (by omega)]) | omega | exact HI0.out)⟩) ?_
        simp only [Act.put, List.setIfInBounds_toArray, List.set_cons_zero, List.set_cons_succ]
        refine wpAnyK_takeTo 6 (some 40) (.bool false) [7, 8, 9, 10, 11, 12, 13, 14, 15, 16, 17, 18, 19, 20, 21, 22] rfl rfl (by kernel_rfl) (by kernel_rfl) (by kernel_rfl) (by kernel_rfl) (fun _ _ _ h => h) hS (Or.inl ⟨rfl, fun w1 hw1 => by obtain ⟨q0, q1, q2, q3, _⟩ := hSx _ hw1; go_simp <;> (first | (rw [wrap_nat (by omega)]) | omega | exact HI0.out)⟩) ?_
        simp only [Act.put, List.setIfInBounds_toArray, List.set_cons_zero, List.set_cons_succ]
        refine wpAnyK_takeTo 7 (some 41) (.bool false) [8, 9, 10, 11, 12, 13, 14, 15, 16, 17, 18, 19, 20, 21, 22] rfl rfl (by kernel_rfl) (by kernel_rfl) (by kernel_rfl) (by kernel_rfl) (fun _ _ _ h => h) hS (Or.inl ⟨rfl, fun w1 hw1 => by obtain ⟨q0, q1, q2, q3, _⟩ := hSx _ hw1; go_simp <;> (first | (rw [wrap_nat (by omega)]) | omega | exact HI0.out)⟩) ?_
        simp only [Act.put, List.setIfInBounds_toArray, List.set_cons_zero, List.set_cons_succ]
        refine wpAnyK_takeTo 8 (some 42) (undef) [9, 10, 11, 20, 21, 22] rfl rfl (by kernel_rfl) (by kernel_rfl) (by kernel_rfl) (by kernel_rfl) (fun _ _ _ h => h) hS (Or.inr ⟨rfl, rfl⟩) ?_
        simp only [Act.put, List.setIfInBounds_toArray, List.set_cons_zero, List.set_cons_succ]
        refine wpAnyK_takeTo 9 (some 43) (undef) [10, 11, 20, 21, 22] rfl rfl (by kernel_rfl) (by kernel_rfl) (by kernel_rfl) (by kernel_rfl) (fun _ _ _ h => h) hS (Or.inr ⟨rfl, rfl⟩) ?_
        simp only [Act.put, List.setIfInBounds_toArray, List.set_cons_zero, List.set_cons_succ]
        refine wpAnyK_takeTo 10 (some 44) (undef) [11, 20, 21, 22] rfl rfl (by kernel_rfl) (by kernel_rfl) (by kernel_rfl) (by kernel_rfl) (fun _ _ _ h => h) hS (Or.inr ⟨rfl, rfl⟩) ?_
        simp only [Act.put, List.setIfInBounds_toArray, List.set_cons_zero, List.set_cons_succ]
        refine wpAnyK_takeTo 11 (some 45) (undef) [20, 21, 22] rfl rfl (by kernel_rfl) (by kernel_rfl) (by kernel_rfl) (by kernel_rfl) (fun _ _ _ h => h) hS (Or.inr ⟨rfl, rfl⟩) ?_
        simp only [Act.put, List.setIfInBounds_toArray, List.set_cons_zero, List.set_cons_succ]
        refine wpAnyK_takeTo 12 (some 46) (undef) [13, 14, 15, 18, 19, 20, 21, 22] rfl rfl (by kernel_rfl) (by kernel_rfl) (by kernel_rfl) (by kernel_rfl) (fun _ _ _ h => h) hS (Or.inr ⟨rfl, rfl⟩) ?_
        simp only [Act.put, List.setIfInBounds_toArray, List.set_cons_zero, List.set_cons_succ]
        refine wpAnyK_takeTo 13 (some 47) (undef) [14, 15, 18, 19, 20, 21, 22] rfl rfl (by kernel_rfl) (by kernel_rfl) (by kernel_rfl) (by kernel_rfl) (fun _ _ _ h => h) hS (Or.inr ⟨rfl, rfl⟩) ?_
        simp only [Act.put, List.setIfInBounds_toArray, List.set_cons_zero, List.set_cons_succ]
        refine wpAnyK_takeTo 14 (some 48) (undef) [15, 18, 19, 20, 21, 22] rfl rfl (by kernel_rfl) (by kernel_rfl) (by kernel_rfl) (by kernel_rfl) (fun _ _ _ h => h) hS (Or.inr ⟨rfl, rfl⟩) ?_
        simp only [Act.put, List.setIfInBounds_toArray, List.set_cons_zero, List.set_cons_succ]
        refine wpAnyK_takeTo 15 (some 49) (undef) [18, 19, 20, 21, 22] rfl rfl (by kernel_rfl) (by kernel_rfl) (by kernel_rfl) (by kernel_rfl) (fun _ _ _ h => h) hS (Or.inr ⟨rfl, rfl⟩) ?_
        simp only [Act.put, List.setIfInBounds_toArray, List.set_cons_zero, List.set_cons_succ]
        refine wpAnyK_takeTo 16 (some 50) (undef) [17, 18, 19, 20, 21, 22] rfl rfl (by kernel_rfl) (by kernel_rfl) (by kernel_rfl) (by kernel_rfl) (fun _ _ _ h => h) hS (Or.inr ⟨rfl, rfl⟩) ?_
        simp only [Act.put, List.setIfInBounds_toArray, List.set_cons_zero, List.set_cons_succ]
        refine wpAnyK_takeTo 17 (some 51) (undef) [18, 19, 20, 21, 22] rfl rfl (by kernel_rfl) (by kernel_rfl) (by kernel_rfl) (by kernel_rfl) (fun _ _ _ h => h) hS (Or.inr ⟨rfl, rfl⟩) ?_
        simp only [Act.put, List.setIfInBounds_toArray, List.set_cons_zero, List.set_cons_succ]
        refine wpAnyK_takeTo 18 (some 52) (undef) [19, 20, 21, 22] rfl rfl (by kernel_rfl) (by kernel_rfl) (by kernel_rfl) (by kernel_rfl) (fun _ _ _ h => h) hS (Or.inr ⟨rfl, rfl⟩) ?_
        simp only [Act.put, List.setIfInBounds_toArray, List.set_cons_zero, List.set_cons_succ]
        refine wpAnyK_takeTo 19 (some 53) (undef) [20, 21, 22] rfl rfl (by kernel_rfl) (by kernel_rfl) (by kernel_rfl) (by kernel_rfl) (fun _ _ _ h => h) hS (Or.inr ⟨rfl, rfl⟩) ?_
        simp only [Act.put, List.setIfInBounds_toArray, List.set_cons_zero, List.set_cons_succ]
        refine wpAnyK_takeTo 20 (some 54) (undef) [21, 22] rfl rfl (by kernel_rfl) (by kernel_rfl) (by kernel_rfl) (by kernel_rfl) (fun _ _ _ h => h) hS (Or.inr ⟨rfl, rfl⟩) ?_
        simp only [Act.put, List.setIfInBounds_toArray, List.set_cons_zero, List.set_cons_succ]
        refine wpAnyK_takeTo 21 (some 55) (.bool false) [22] rfl rfl (by kernel_rfl) (by kernel_rfl) (by kernel_rfl) (by kernel_rfl) (fun _ _ _ h => h) hS (Or.inl ⟨rfl, fun w1 hw1 => by obtain ⟨q0, q1, q2, q3, _⟩ := hSx _ hw1; go_simp <;> (first | (rw [wrap_nat (by omega)]) | omega | exact HI0.out)⟩) ?_
        simp only [Act.put, List.setIfInBounds_toArray, List.set_cons_zero, List.set_cons_succ]
        refine wpAnyK_takeTo 22 (some 33) (.bool false) [] rfl rfl (by kernel_rfl) (by kernel_rfl) (by kernel_rfl) (by kernel_rfl) (fun _ _ _ h => h) hS (Or.inl ⟨rfl, fun w1 hw1 => by obtain ⟨q0, q1, q2, q3, _⟩ := hSx _ hw1; go_simp <;> (first | (rw [wrap_nat (by omega)]) | omega | exact HI0.out)⟩) ?_
        simp only [Act.put, List.setIfInBounds_toArray, List.set_cons_zero, List.set_cons_succ]
        refine wpAnyK_done (by kernel_rfl) ?_ _
        have x1 := (hSx _ hS).2.2.1
        clear hS hSx y0 y1 x2
        have hij' : (i : Int) - 1 = (j : Int) := by have := HIJ.out; omega
        go_wp2_with fail
        refine (HDh.out j e0 t0 l0 k0 L0 ks0 HIJ.out (by rw [HLN.out]; exact HIN.out) hj0 hN0 hK0 (by omega) _ FW).mono ?_
        rintro en w' hQ
        obtain ⟨p', lv', kv', L', ks', j', d', rfl, hQ⟩ := hQ
        have HRES := hide hQ
        clear hQ
        go_wp2_with fail
        go_end0
        exact ⟨p', lv', kv', L', ks', j', d', rfl, HRES.out⟩
      · obtain ⟨e2, hi2⟩ : ∃ e2, ks[i + 1]? = some e2 := ⟨_, List.getElem?_eq_getElem (by rw [HLM.out]; have := HMN.out; omega)⟩
        obtain ⟨t2, l2, k2, L2, ks2, hN2, hK2⟩ := HSUB.out (i + 1) e2 hi2
        by_cases hrl2 : o ≤ L2.length
        · have hr2 : decide (o ≤ L2.length) = true := decide_eq_true hrl2
          have hg2 : decide ((i : Int) < (n : Int)) = true := decide_eq_true (by omega)
          have hlt : i < n := by omega
          obtain ⟨i1, hi1⟩ : ∃ i1, i1 = i + 1 := ⟨_, rfl⟩
          have hi1' : (i : Int) + 1 = (i1 : Int) := by omega
          have hi1m : i1 < m := by have := HMN.out; omega
          have c2 := HKC.out (i + 1) e2 hi2
          rw [← hi1] at c2
          have HI1 := hide hi1
          clear hi1
          go_wp2_with fail
          refine wp_region_K (fun _ => true) (fun U : World => Fr W1.drew U (fun _ => False)) (by kernel_rfl) ?_
          obtain ⟨We, hWe⟩ : ∃ We, We = W1.drew := ⟨_, rfl⟩
          have FW : Fr w We (fun _ => False) := by rw [hWe]; exact FV.two (Fr.drew _ _)
          rw [← hWe]
          clear hWe
          have hS : (fun U : World => Fr We U (fun _ => False)) We := Fr.refl _ _
          have hSx : ∀ V, Fr We V (fun _ => False) → V.cell? ⟨tb, 0, none⟩ = some (.int .i64 (o : Int)) ∧ V.cell? ⟨tb, 1, none⟩ = some (.int .i64 cnt) ∧ V.cell? ⟨pg, 1, none⟩ = some (.slice la n lc) ∧ V.cell? ⟨pg, 2, none⟩ = some (.slice (some ⟨gk, 0, none⟩) m kc') ∧ V.cell? ⟨gk, i1, none⟩ = some (.pointer (some ⟨e2.g, 0, none⟩)) ∧ True := fun V hV => by
            have hd := FW.two hV
            exact ⟨hd.cell (fun h => h) y0, hd.cell (fun h => h) y1, hd.cell (fun h => h) x1, hd.cell (fun h => h) x2, hd.cell (fun h => h) c2, trivial⟩
          refine wpAnyK_takeTo 0 (some 34) (.int .i64 (i : Int)) [6, 7, 8, 9, 10, 11, 12, 13, 14, 15, 16, 17, 18, 19, 20, 21, 22] rfl rfl (by kernel_rfl) (by kernel_rfl) (by kernel_rfl) (by kernel_rfl) (fun _ _ _ h => h) hS (Or.inl ⟨rfl, fun w1 hw1 => by obtain ⟨q0, q1, q2, q3, q4, _⟩ := hSx _ hw1; go_simp <;> (first | (rw [wrap_nat (by omega)]) | omega | exact HI0.out)⟩) ?_
          simp only [Act.put, List.setIfInBounds_toArray, List.set_cons_zero, List.set_cons_succ]
          refine wpAnyK_takeTo 1 (some 35) (.pointer (some ⟨pg, 0, none⟩)) [2, 3, 4, 5, 6, 7, 8, 9, 10, 11, 12, 13, 14, 15, 16, 17, 18, 19, 20, 21, 22] rfl rfl (by kernel_rfl) (by kernel_rfl) (by kernel_rfl) (by kernel_rfl) (fun _ _ _ h => h) hS (Or.inl ⟨rfl, fun w1 hw1 => by obtain ⟨q0, q1, q2, q3, q4, _⟩ := hSx _ hw1; go_simp <;> (first | (rw [wrap_nat (by omega)]) | omega | exact HI0.out)⟩) ?_
          simp only [Act.put, List.setIfInBounds_toArray, List.set_cons_zero, List.set_cons_succ]
          refine wpAnyK_takeTo 2 (some 36) (.pointer (some ⟨pg, 0, none⟩)) [3, 4, 5, 6, 7, 8, 9, 10, 11, 12, 13, 14, 15, 16, 17, 18, 19, 20, 21, 22] rfl rfl (by kernel_rfl) (by kernel_rfl) (by kernel_rfl) (by kernel_rfl) (fun _ _ _ h => h) hS (Or.inl ⟨rfl, fun w1 hw1 => by obtain ⟨q0, q1, q2, q3, q4, _⟩ := hSx _ hw1; go_simp <;> (first | (rw [wrap_nat (by omega)]) | omega | exact HI0.out)⟩) ?_
          simp only [Act.put, List.setIfInBounds_toArray, List.set_cons_zero, List.set_cons_succ]
          refine wpAnyK_takeTo 3 (some 37) (.pointer (some ⟨pg, 1, none⟩)) [4, 5, 6, 7, 8, 9, 10, 11, 12, 13, 14, 15, 16, 17, 18, 19, 20, 21, 22] rfl rfl (by kernel_rfl) (by kernel_rfl) (by kernel_rfl) (by kernel_rfl) (fun _ _ _ h => h) hS (Or.inl ⟨rfl, fun w1 hw1 => by obtain ⟨q0, q1, q2, q3, q4, _⟩ := hSx _ hw1; go_simp <;> (first | (rw [wrap_nat (by omega)]) | omega | exact HI0.out)⟩) ?_
          simp only [Act.put, List.setIfInBounds_toArray, List.set_cons_zero, List.set_cons_succ]
          refine wpAnyK_takeTo 4 (some 38) (.slice la n lc) [5, 6, 7, 8, 9, 10, 11, 12, 13, 14, 15, 16, 17, 18, 19, 20, 21, 22] rfl rfl (by kernel_rfl) (by kernel_rfl) (by kernel_rfl) (by kernel_rfl) (fun _ _ _ h => h) hS (Or.inl ⟨rfl, fun w1 hw1 => by obtain ⟨q0, q1, q2, q3, q4, _⟩ := hSx _ hw1; go_simp <;> (first | (rw [wrap_nat (by omega)]) | omega | exact HI0.out)⟩) ?_
          simp only [Act.put, List.setIfInBounds_toArray, List.set_cons_zero, List.set_cons_succ]
          refine wpAnyK_takeTo 5 (some 39) (.int .i64 (n : Int)) [6, 7, 8, 9, 10, 11, 12, 13, 14, 15, 16, 17, 18, 19, 20, 21, 22] rfl rfl (by kernel_rfl) (by kernel_rfl) (by kernel_rfl) (by kernel_rfl) (fun _ _ _ h => h) hS (Or.inl ⟨rfl, fun w1 hw1 => by obtain ⟨q0, q1, q2, q3, q4, _⟩ := hSx _ hw1; go_simp <;> (first | (rw [wrap_nat (by omega)]) | omega | exact HI0.out)⟩) ?_
          simp only [Act.put, List.setIfInBounds_toArray, List.set_cons_zero, List.set_cons_succ]
          refine wpAnyK_takeTo 6 (some 40) (.bool true) [7, 8, 9, 10, 11, 12, 13, 14, 15, 16, 17, 18, 19, 20, 21, 22] rfl rfl (by kernel_rfl) (by kernel_rfl) (by kernel_rfl) (by kernel_rfl) (fun _ _ _ h => h) hS (Or.inl ⟨rfl, fun w1 hw1 => by obtain ⟨q0, q1, q2, q3, q4, _⟩ := hSx _ hw1; go_simp <;> (first | (rw [wrap_nat (by omega)]) | omega | exact HI0.out)⟩) ?_
          simp only [Act.put, List.setIfInBounds_toArray, List.set_cons_zero, List.set_cons_succ]
          refine wpAnyK_takeTo 7 (some 41) (.bool true) [8, 9, 10, 11, 12, 13, 14, 15, 16, 17, 18, 19, 20, 21, 22] rfl rfl (by kernel_rfl) (by kernel_rfl) (by kernel_rfl) (by kernel_rfl) (fun _ _ _ h => h) hS (Or.inl ⟨rfl, fun w1 hw1 => by obtain ⟨q0, q1, q2, q3, q4, _⟩ := hSx _ hw1; go_simp <;> (first | (rw [wrap_nat (by omega)]) | omega | exact HI0.out)⟩) ?_
          simp only [Act.put, List.setIfInBounds_toArray, List.set_cons_zero, List.set_cons_succ]
          refine wpAnyK_takeTo 8 (some 42) (.pointer (some ⟨tb, 0, none⟩)) [9, 10, 11, 20, 21, 22] rfl rfl (by kernel_rfl) (by kernel_rfl) (by kernel_rfl) (by kernel_rfl) (fun _ _ _ h => h) hS (Or.inl ⟨rfl, fun w1 hw1 => by obtain ⟨q0, q1, q2, q3, q4, _⟩ := hSx _ hw1; go_simp <;> (first | (rw [wrap_nat (by omega)]) | omega | exact HI0.out)⟩) ?_
          simp only [Act.put, List.setIfInBounds_toArray, List.set_cons_zero, List.set_cons_succ]
          refine wpAnyK_takeTo 9 (some 43) (.pointer (some ⟨tb, 0, none⟩)) [10, 11, 20, 21, 22] rfl rfl (by kernel_rfl) (by kernel_rfl) (by kernel_rfl) (by kernel_rfl) (fun _ _ _ h => h) hS (Or.inl ⟨rfl, fun w1 hw1 => by obtain ⟨q0, q1, q2, q3, q4, _⟩ := hSx _ hw1; go_simp <;> (first | (rw [wrap_nat (by omega)]) | omega | exact HI0.out)⟩) ?_
          simp only [Act.put, List.setIfInBounds_toArray, List.set_cons_zero, List.set_cons_succ]
          refine wpAnyK_takeTo 10 (some 44) (.pointer (some ⟨tb, 0, none⟩)) [11, 20, 21, 22] rfl rfl (by kernel_rfl) (by kernel_rfl) (by kernel_rfl) (by kernel_rfl) (fun _ _ _ h => h) hS (Or.inl ⟨rfl, fun w1 hw1 => by obtain ⟨q0, q1, q2, q3, q4, _⟩ := hSx _ hw1; go_simp <;> (first | (rw [wrap_nat (by omega)]) | omega | exact HI0.out)⟩) ?_
          simp only [Act.put, List.setIfInBounds_toArray, List.set_cons_zero, List.set_cons_succ]
          refine wpAnyK_takeTo 11 (some 45) (.agg #[.int .i64 (o : Int), .int .i64 cnt]) [20, 21, 22] rfl rfl (by kernel_rfl) (by kernel_rfl) (by kernel_rfl) (by kernel_rfl) (fun _ _ _ h => h) hS (Or.inl ⟨rfl, fun w1 hw1 => by obtain ⟨q0, q1, q2, q3, q4, _⟩ := hSx _ hw1; go_simp <;> (first | (rw [wrap_nat (by omega)]) | omega | exact HI0.out)⟩) ?_
          simp only [Act.put, List.setIfInBounds_toArray, List.set_cons_zero, List.set_cons_succ]
          refine wpAnyK_takeTo 12 (some 46) (.pointer (some ⟨pg, 0, none⟩)) [13, 14, 15, 18, 19, 20, 21, 22] rfl rfl (by kernel_rfl) (by kernel_rfl) (by kernel_rfl) (by kernel_rfl) (fun _ _ _ h => h) hS (Or.inl ⟨rfl, fun w1 hw1 => by obtain ⟨q0, q1, q2, q3, q4, _⟩ := hSx _ hw1; go_simp <;> (first | (rw [wrap_nat (by omega)]) | omega | exact HI0.out)⟩) ?_
          simp only [Act.put, List.setIfInBounds_toArray, List.set_cons_zero, List.set_cons_succ]
          refine wpAnyK_takeTo 13 (some 47) (.pointer (some ⟨pg, 0, none⟩)) [14, 15, 18, 19, 20, 21, 22] rfl rfl (by kernel_rfl) (by kernel_rfl) (by kernel_rfl) (by kernel_rfl) (fun _ _ _ h => h) hS (Or.inl ⟨rfl, fun w1 hw1 => by obtain ⟨q0, q1, q2, q3, q4, _⟩ := hSx _ hw1; go_simp <;> (first | (rw [wrap_nat (by omega)]) | omega | exact HI0.out)⟩) ?_
          simp only [Act.put, List.setIfInBounds_toArray, List.set_cons_zero, List.set_cons_succ]
          refine wpAnyK_takeTo 14 (some 48) (.pointer (some ⟨pg, 2, none⟩)) [15, 18, 19, 20, 21, 22] rfl rfl (by kernel_rfl) (by kernel_rfl) (by kernel_rfl) (by kernel_rfl) (fun _ _ _ h => h) hS (Or.inl ⟨rfl, fun w1 hw1 => by obtain ⟨q0, q1, q2, q3, q4, _⟩ := hSx _ hw1; go_simp <;> (first | (rw [wrap_nat (by omega)]) | omega | exact HI0.out)⟩) ?_
          simp only [Act.put, List.setIfInBounds_toArray, List.set_cons_zero, List.set_cons_succ]
          refine wpAnyK_takeTo 15 (some 49) (.slice (some ⟨gk, 0, none⟩) m kc') [18, 19, 20, 21, 22] rfl rfl (by kernel_rfl) (by kernel_rfl) (by kernel_rfl) (by kernel_rfl) (fun _ _ _ h => h) hS (Or.inl ⟨rfl, fun w1 hw1 => by obtain ⟨q0, q1, q2, q3, q4, _⟩ := hSx _ hw1; go_simp <;> (first | (rw [wrap_nat (by omega)]) | omega | exact HI0.out)⟩) ?_
          simp only [Act.put, List.setIfInBounds_toArray, List.set_cons_zero, List.set_cons_succ]
          refine wpAnyK_takeTo 16 (some 50) (.int .i64 (i : Int)) [17, 18, 19, 20, 21, 22] rfl rfl (by kernel_rfl) (by kernel_rfl) (by kernel_rfl) (by kernel_rfl) (fun _ _ _ h => h) hS (Or.inl ⟨rfl, fun w1 hw1 => by obtain ⟨q0, q1, q2, q3, q4, _⟩ := hSx _ hw1; go_simp <;> (first | (rw [wrap_nat (by omega)]) | omega | exact HI0.out)⟩) ?_
          simp only [Act.put, List.setIfInBounds_toArray, List.set_cons_zero, List.set_cons_succ]
          refine wpAnyK_takeTo 17 (some 51) (.int .i64 (i1 : Int)) [18, 19, 20, 21, 22] rfl rfl (by kernel_rfl) (by kernel_rfl) (by kernel_rfl) (by kernel_rfl) (fun _ _ _ h => h) hS (Or.inl ⟨rfl, fun w1 hw1 => by obtain ⟨q0, q1, q2, q3, q4, _⟩ := hSx _ hw1; go_simp <;> (first | (rw [wrap_nat (by omega)]) | omega | exact HI0.out)⟩) ?_
          simp only [Act.put, List.setIfInBounds_toArray, List.set_cons_zero, List.set_cons_succ]
          refine wpAnyK_takeTo 18 (some 52) (.pointer (some ⟨gk, i1, none⟩)) [19, 20, 21, 22] rfl rfl (by kernel_rfl) (by kernel_rfl) (by kernel_rfl) (by kernel_rfl) (fun _ _ _ h => h) hS (Or.inl ⟨rfl, fun w1 hw1 => by obtain ⟨q0, q1, q2, q3, q4, _⟩ := hSx _ hw1; go_simp <;> (first | (rw [wrap_nat (by omega)]) | omega | exact HI0.out)⟩) ?_
          simp only [Act.put, List.setIfInBounds_toArray, List.set_cons_zero, List.set_cons_succ]
          refine wpAnyK_takeTo 19 (some 53) (.pointer (some ⟨e2.g, 0, none⟩)) [20, 21, 22] rfl rfl (by kernel_rfl) (by kernel_rfl) (by kernel_rfl) (by kernel_rfl) (fun _ _ _ h => h) hS (Or.inl ⟨rfl, fun w1 hw1 => by obtain ⟨q0, q1, q2, q3, q4, _⟩ := hSx _ hw1; go_simp <;> (first | (rw [wrap_nat (by omega)]) | omega | exact HI0.out)⟩) ?_
          simp only [Act.put, List.setIfInBounds_toArray, List.set_cons_zero, List.set_cons_succ]
          refine wpAnyK_one (i := 20) (by kernel_rfl) rfl rfl ?_
          refine wp_call_to (some 54) rfl 57 #[.agg #[.int .i64 (o : Int), .int .i64 cnt], .pointer (some ⟨e2.g, 0, none⟩)] (by go_simp) (rich_any (hN2.toNodeP.fr FW (fun _ _ h => h)) o (by omega) ho cnt) ?_
          rintro en W3 ⟨rfl, f1⟩
          have hS1 : (fun U : World => Fr We U (fun _ => False)) W3 := f1
          rw [hr2]
          refine ⟨_, rfl, fun _ => hS1, ?_⟩
          simp only [Act.put, List.setIfInBounds_toArray, List.set_cons_zero, List.set_cons_succ]
          replace hS := hS1
          replace FW := FW.two f1
          clear hS1
          refine wpAnyK_takeTo 21 (some 55) (.bool true) [22] rfl rfl (by kernel_rfl) (by kernel_rfl) (by kernel_rfl) (by kernel_rfl) (fun _ _ _ h => h) hS (Or.inl ⟨rfl, fun w1 hw1 => by go_simp⟩) ?_
          simp only [Act.put, List.setIfInBounds_toArray, List.set_cons_zero, List.set_cons_succ]
          refine wpAnyK_takeTo 22 (some 33) (.bool true) [] rfl rfl (by kernel_rfl) (by kernel_rfl) (by kernel_rfl) (by kernel_rfl) (fun _ _ _ h => h) hS (Or.inl ⟨rfl, fun w1 hw1 => by go_simp⟩) ?_
          simp only [Act.put, List.setIfInBounds_toArray, List.set_cons_zero, List.set_cons_succ]
          refine wpAnyK_done (by kernel_rfl) ?_ _
          replace x1 := (hSx _ hS).2.2.1
          clear hS hSx c2 f1 y0 y1 x2
          go_wp2_with fail
          refine (HBh.out e2 t2 l2 k2 L2 ks2 hi2 hN2 hK2 hrl2 _ FW).mono ?_
          rintro en w' hQ
          obtain ⟨p', lv', kv', L', ks', j', d', rfl, hQ⟩ := hQ
          have HRES := hide hQ
          clear hQ
          go_wp2_with fail
          go_end0
          exact ⟨p', lv', kv', L', ks', j', d', rfl, HRES.out⟩
        · have hr2 : decide (o ≤ L2.length) = false := decide_eq_false hrl2
          have hg2 : decide ((i : Int) < (n : Int)) = true := decide_eq_true (by omega)
          have hlt : i < n := by omega
          obtain ⟨i1, hi1⟩ : ∃ i1, i1 = i + 1 := ⟨_, rfl⟩
          have hi1' : (i : Int) + 1 = (i1 : Int) := by omega
          have hi1m : i1 < m := by have := HMN.out; omega
          have c2 := HKC.out (i + 1) e2 hi2
          rw [← hi1] at c2
          have HI1 := hide hi1
          clear hi1
          go_wp2_with fail
          refine wp_region_K (fun _ => true) (fun U : World => Fr W1.drew U (fun _ => False)) (by kernel_rfl) ?_
          obtain ⟨We, hWe⟩ : ∃ We, We = W1.drew := ⟨_, rfl⟩
          have FW : Fr w We (fun _ => False) := by rw [hWe]; exact FV.two (Fr.drew _ _)
          rw [← hWe]
          clear hWe
          have hS : (fun U : World => Fr We U (fun _ => False)) We := Fr.refl _ _
          have hSx : ∀ V, Fr We V (fun _ => False) → V.cell? ⟨tb, 0, none⟩ = some (.int .i64 (o : Int)) ∧ V.cell? ⟨tb, 1, none⟩ = some (.int .i64 cnt) ∧ V.cell? ⟨pg, 1, none⟩ = some (.slice la n lc) ∧ V.cell? ⟨pg, 2, none⟩ = some (.slice (some ⟨gk, 0, none⟩) m kc') ∧ V.cell? ⟨gk, i1, none⟩ = some (.pointer (some ⟨e2.g, 0, none⟩)) ∧ True := fun V hV => by
            have hd := FW.two hV
            exact ⟨hd.cell (fun h => h) y0, hd.cell (fun h => h) y1, hd.cell (fun h => h) x1, hd.cell (fun h => h) x2, hd.cell (fun h => h) c2, trivial⟩
          refine wpAnyK_takeTo 0 (some 34) (.int .i64 (i : Int)) [6, 7, 8, 9, 10, 11, 12, 13, 14, 15, 16, 17, 18, 19, 20, 21, 22] rfl rfl (by kernel_rfl) (by kernel_rfl) (by kernel_rfl) (by kernel_rfl) (fun _ _ _ h => h) hS (Or.inl ⟨rfl, fun w1 hw1 => by obtain ⟨q0, q1, q2, q3, q4, _⟩ := hSx _ hw1; go_simp <;> (first | (rw [wrap_nat (by omega)]) | omega | exact HI0.out)⟩) ?_
          simp only [Act.put, List.setIfInBounds_toArray, List.set_cons_zero, List.set_cons_succ]
          refine wpAnyK_takeTo 1 (some 35) (.pointer (some ⟨pg, 0, none⟩)) [2, 3, 4, 5, 6, 7, 8, 9, 10, 11, 12, 13, 14, 15, 16, 17, 18, 19, 20, 21, 22] rfl rfl (by kernel_rfl) (by kernel_rfl) (by kernel_rfl) (by kernel_rfl) (fun _ _ _ h => h) hS (Or.inl ⟨rfl, fun w1 hw1 => by obtain ⟨q0, q1, q2, q3, q4, _⟩ := hSx _ hw1; go_simp <;> (first | (rw [wrap_nat (by omega)]) | omega | exact HI0.out)⟩) ?_
          simp only [Act.put, List.setIfInBounds_toArray, List.set_cons_zero, List.set_cons_succ]
          refine wpAnyK_takeTo 2 (some 36) (.pointer (some ⟨pg, 0, none⟩)) [3, 4, 5, 6, 7, 8, 9, 10, 11, 12, 13, 14, 15, 16, 17, 18, 19, 20, 21, 22] rfl rfl (by kernel_rfl) (by kernel_rfl) (by kernel_rfl) (by kernel_rfl) (fun _ _ _ h => h) hS (Or.inl ⟨rfl, fun w1 hw1 => by obtain ⟨q0, q1, q2, q3, q4, _⟩ := hSx _ hw1; go_simp <;> (first | (rw [wrap_nat (by omega)]) | omega | exact HI0.out)⟩) ?_
          simp only [Act.put, List.setIfInBounds_toArray, List.set_cons_zero, List.set_cons_succ]
          refine wpAnyK_takeTo 3 (some 37) (.pointer (some ⟨pg, 1, none⟩)) [4, 5, 6, 7, 8, 9, 10, 11, 12, 13, 14, 15, 16, 17, 18, 19, 20, 21, 22] rfl rfl (by kernel_rfl) (by kernel_rfl) (by kernel_rfl) (by kernel_rfl) (fun _ _ _ h => h) hS (Or.inl ⟨rfl, fun w1 hw1 => by obtain ⟨q0, q1, q2, q3, q4, _⟩ := hSx _ hw1; go_simp <;> (first | (rw [wrap_nat (by omega)]) | omega | exact HI0.out)⟩) ?_
          simp only [Act.put, List.setIfInBounds_toArray, List.set_cons_zero, List.set_cons_succ]
          refine wpAnyK_takeTo 4 (some 38) (.slice la n lc) [5, 6, 7, 8, 9, 10, 11, 12, 13, 14, 15, 16, 17, 18, 19, 20, 21, 22] rfl rfl (by kernel_rfl) (by kernel_rfl) (by kernel_rfl) (by kernel_rfl) (fun _ _ _ h => h) hS (Or.inl ⟨rfl, fun w1 hw1 => by obtain ⟨q0, q1, q2, q3, q4, _⟩ := hSx _ hw1; go_simp <;> (first | (rw [wrap_nat (by omega)]) | omega | exact HI0.out)⟩) ?_
          simp only [Act.put, List.setIfInBounds_toArray, List.set_cons_zero, List.set_cons_succ]
          refine wpAnyK_takeTo 5 (some 39) (.int .i64 (n : Int)) [6, 7, 8, 9, 10, 11, 12, 13, 14, 15, 16, 17, 18, 19, 20, 21, 22] rfl rfl (by kernel_rfl) (by kernel_rfl) (by kernel_rfl) (by kernel_rfl) (fun _ _ _ h => h) hS (Or.inl ⟨rfl, fun w1 hw1 => by obtain ⟨q0, q1, q2, q3, q4, _⟩ := hSx _ hw1; go_simp <;> (first | (rw [wrap_nat (by omega)]) | omega | exact HI0.out)⟩) ?_
          simp only [Act.put, List.setIfInBounds_toArray, List.set_cons_zero, List.set_cons_succ]
          refine wpAnyK_takeTo 6 (some 40) (.bool true) [7, 8, 9, 10, 11, 12, 13, 14, 15, 16, 17, 18, 19, 20, 21, 22] rfl rfl (by kernel_rfl) (by kernel_rfl) (by kernel_rfl) (by kernel_rfl) (fun _ _ _ h => h) hS (Or.inl ⟨rfl, fun w1 hw1 => by obtain ⟨q0, q1, q2, q3, q4, _⟩ := hSx _ hw1; go_simp <;> (first | (rw [wrap_nat (by omega)]) | omega | exact HI0.out)⟩) ?_
          simp only [Act.put, List.setIfInBounds_toArray, List.set_cons_zero, List.set_cons_succ]
          refine wpAnyK_takeTo 7 (some 41) (.bool true) [8, 9, 10, 11, 12, 13, 14, 15, 16, 17, 18, 19, 20, 21, 22] rfl rfl (by kernel_rfl) (by kernel_rfl) (by kernel_rfl) (by kernel_rfl) (fun _ _ _ h => h) hS (Or.inl ⟨rfl, fun w1 hw1 => by obtain ⟨q0, q1, q2, q3, q4, _⟩ := hSx _ hw1; go_simp <;> (first | (rw [wrap_nat (by omega)]) | omega | exact HI0.out)⟩) ?_
          simp only [Act.put, List.setIfInBounds_toArray, List.set_cons_zero, List.set_cons_succ]
          refine wpAnyK_takeTo 8 (some 42) (.pointer (some ⟨tb, 0, none⟩)) [9, 10, 11, 20, 21, 22] rfl rfl (by kernel_rfl) (by kernel_rfl) (by kernel_rfl) (by kernel_rfl) (fun _ _ _ h => h) hS (Or.inl ⟨rfl, fun w1 hw1 => by obtain ⟨q0, q1, q2, q3, q4, _⟩ := hSx _ hw1; go_simp <;> (first | (rw [wrap_nat (by omega)]) | omega | exact HI0.out)⟩) ?_
          simp only [Act.put, List.setIfInBounds_toArray, List.set_cons_zero, List.set_cons_succ]
          refine wpAnyK_takeTo 9 (some 43) (.pointer (some ⟨tb, 0, none⟩)) [10, 11, 20, 21, 22] rfl rfl (by kernel_rfl) (by kernel_rfl) (by kernel_rfl) (by kernel_rfl) (fun _ _ _ h => h) hS (Or.inl ⟨rfl, fun w1 hw1 => by obtain ⟨q0, q1, q2, q3, q4, _⟩ := hSx _ hw1; go_simp <;> (first | (rw [wrap_nat (by omega)]) | omega | exact HI0.out)⟩) ?_
          simp only [Act.put, List.setIfInBounds_toArray, List.set_cons_zero, List.set_cons_succ]
          refine wpAnyK_takeTo 10 (some 44) (.pointer (some ⟨tb, 0, none⟩)) [11, 20, 21, 22] rfl rfl (by kernel_rfl) (by kernel_rfl) (by kernel_rfl) (by kernel_rfl) (fun _ _ _ h => h) hS (Or.inl ⟨rfl, fun w1 hw1 => by obtain ⟨q0, q1, q2, q3, q4, _⟩ := hSx _ hw1; go_simp <;> (first | (rw [wrap_nat (by omega)]) | omega | exact HI0.out)⟩) ?_
          simp only [Act.put, List.setIfInBounds_toArray, List.set_cons_zero, List.set_cons_succ]
          refine wpAnyK_takeTo 11 (some 45) (.agg #[.int .i64 (o : Int), .int .i64 cnt]) [20, 21, 22] rfl rfl (by kernel_rfl) (by kernel_rfl) (by kernel_rfl) (by kernel_rfl) (fun _ _ _ h => h) hS (Or.inl ⟨rfl, fun w1 hw1 => by obtain ⟨q0, q1, q2, q3, q4, _⟩ := hSx _ hw1; go_simp <;> (first | (rw [wrap_nat (by omega)]) | omega | exact HI0.out)⟩) ?_
          simp only [Act.put, List.setIfInBounds_toArray, List.set_cons_zero, List.set_cons_succ]
          refine wpAnyK_takeTo 12 (some 46) (.pointer (some ⟨pg, 0, none⟩)) [13, 14, 15, 18, 19, 20, 21, 22] rfl rfl (by kernel_rfl) (by kernel_rfl) (by kernel_rfl) (by kernel_rfl) (fun _ _ _ h => h) hS (Or.inl ⟨rfl, fun w1 hw1 => by obtain ⟨q0, q1, q2, q3, q4, _⟩ := hSx _ hw1; go_simp <;> (first | (rw [wrap_nat (by omega)]) | omega | exact HI0.out)⟩) ?_
          simp only [Act.put, List.setIfInBounds_toArray, List.set_cons_zero, List.set_cons_succ]
          refine wpAnyK_takeTo 13 (some 47) (.pointer (some ⟨pg, 0, none⟩)) [14, 15, 18, 19, 20, 21, 22] rfl rfl (by kernel_rfl) (by kernel_rfl) (by kernel_rfl) (by kernel_rfl) (fun _ _ _ h => h) hS (Or.inl ⟨rfl, fun w1 hw1 => by obtain ⟨q0, q1, q2, q3, q4, _⟩ := hSx _ hw1; go_simp <;> (first | (rw [wrap_nat (by omega)]) | omega | exact HI0.out)⟩) ?_
          simp only [Act.put, List.setIfInBounds_toArray, List.set_cons_zero, List.set_cons_succ]
          refine wpAnyK_takeTo 14 (some 48) (.pointer (some ⟨pg, 2, none⟩)) [15, 18, 19, 20, 21, 22] rfl rfl (by kernel_rfl) (by kernel_rfl) (by kernel_rfl) (by kernel_rfl) (fun _ _ _ h => h) hS (Or.inl ⟨rfl, fun w1 hw1 => by obtain ⟨q0, q1, q2, q3, q4, _⟩ := hSx _ hw1; go_simp <;> (first | (rw [wrap_nat (by omega)]) | omega | exact HI0.out)⟩) ?_
          simp only [Act.put, List.setIfInBounds_toArray, List.set_cons_zero, List.set_cons_succ]
          refine wpAnyK_takeTo 15 (some 49) (.slice (some ⟨gk, 0, none⟩) m kc') [18, 19, 20, 21, 22] rfl rfl (by kernel_rfl) (by kernel_rfl) (by kernel_rfl) (by kernel_rfl) (fun _ _ _ h => h) hS (Or.inl ⟨rfl, fun w1 hw1 => by obtain ⟨q0, q1, q2, q3, q4, _⟩ := hSx _ hw1; go_simp <;> (first | (rw [wrap_nat (by omega)]) | omega | exact HI0.out)⟩) ?_
          simp only [Act.put, List.setIfInBounds_toArray, List.set_cons_zero, List.set_cons_succ]
          refine wpAnyK_takeTo 16 (some 50) (.int .i64 (i : Int)) [17, 18, 19, 20, 21, 22] rfl rfl (by kernel_rfl) (by kernel_rfl) (by kernel_rfl) (by kernel_rfl) (fun _ _ _ h => h) hS (Or.inl ⟨rfl, fun w1 hw1 => by obtain ⟨q0, q1, q2, q3, q4, _⟩ := hSx _ hw1; go_simp <;> (first | (rw [wrap_nat (by omega)]) | omega | exact HI0.out)⟩) ?_
          simp only [Act.put, List.setIfInBounds_toArray, List.set_cons_zero, List.set_cons_succ]
          refine wpAnyK_takeTo 17 (some 51) (.int .i64 (i1 : Int)) [18, 19, 20, 21, 22] rfl rfl (by kernel_rfl) (by kernel_rfl) (by kernel_rfl) (by kernel_rfl) (fun _ _ _ h => h) hS (Or.inl ⟨rfl, fun w1 hw1 => by obtain ⟨q0, q1, q2, q3, q4, _⟩ := hSx _ hw1; go_simp <;> (first | (rw [wrap_nat (by omega)]) | omega | exact HI0.out)⟩) ?_
          simp only [Act.put, List.setIfInBounds_toArray, List.set_cons_zero, List.set_cons_succ]
          refine wpAnyK_takeTo 18 (some 52) (.pointer (some ⟨gk, i1, none⟩)) [19, 20, 21, 22] rfl rfl (by kernel_rfl) (by kernel_rfl) (by kernel_rfl) (by kernel_rfl) (fun _ _ _ h => h) hS (Or.inl ⟨rfl, fun w1 hw1 => by obtain ⟨q0, q1, q2, q3, q4, _⟩ := hSx _ hw1; go_simp <;> (first | (rw [wrap_nat (by omega)]) | omega | exact HI0.out)⟩) ?_
          simp only [Act.put, List.setIfInBounds_toArray, List.set_cons_zero, List.set_cons_succ]
          refine wpAnyK_takeTo 19 (some 53) (.pointer (some ⟨e2.g, 0, none⟩)) [20, 21, 22] rfl rfl (by kernel_rfl) (by kernel_rfl) (by kernel_rfl) (by kernel_rfl) (fun _ _ _ h => h) hS (Or.inl ⟨rfl, fun w1 hw1 => by obtain ⟨q0, q1, q2, q3, q4, _⟩ := hSx _ hw1; go_simp <;> (first | (rw [wrap_nat (by omega)]) | omega | exact HI0.out)⟩) ?_
          simp only [Act.put, List.setIfInBounds_toArray, List.set_cons_zero, List.set_cons_succ]
          refine wpAnyK_one (i := 20) (by kernel_rfl) rfl rfl ?_
          refine wp_call_to (some 54) rfl 57 #[.agg #[.int .i64 (o : Int), .int .i64 cnt], .pointer (some ⟨e2.g, 0, none⟩)] (by go_simp) (rich_any (hN2.toNodeP.fr FW (fun _ _ h => h)) o (by omega) ho cnt) ?_
          rintro en W3 ⟨rfl, f1⟩
          have hS1 : (fun U : World => Fr We U (fun _ => False)) W3 := f1
          rw [hr2]
          refine ⟨_, rfl, fun _ => hS1, ?_⟩
          simp only [Act.put, List.setIfInBounds_toArray, List.set_cons_zero, List.set_cons_succ]
          replace hS := hS1
          replace FW := FW.two f1
          clear hS1
          refine wpAnyK_takeTo 21 (some 55) (.bool false) [22] rfl rfl (by kernel_rfl) (by kernel_rfl) (by kernel_rfl) (by kernel_rfl) (fun _ _ _ h => h) hS (Or.inl ⟨rfl, fun w1 hw1 => by go_simp⟩) ?_
          simp only [Act.put, List.setIfInBounds_toArray, List.set_cons_zero, List.set_cons_succ]
          refine wpAnyK_takeTo 22 (some 33) (.bool false) [] rfl rfl (by kernel_rfl) (by kernel_rfl) (by kernel_rfl) (by kernel_rfl) (fun _ _ _ h => h) hS (Or.inl ⟨rfl, fun w1 hw1 => by go_simp⟩) ?_
          simp only [Act.put, List.setIfInBounds_toArray, List.set_cons_zero, List.set_cons_succ]
          refine wpAnyK_done (by kernel_rfl) ?_ _
          replace x1 := (hSx _ hS).2.2.1
          clear hS hSx c2 f1 y0 y1 x2
          go_wp2_with fail
          refine (HCh.out e2 t2 l2 k2 L2 ks2 hi2 hN2 hK2 (by have := hN2.low; omega) _ FW).mono ?_
          rintro en w' hQ
          obtain ⟨p', lv', kv', L', ks', j', d', rfl, hQ⟩ := hQ
          have HRES := hide hQ
          clear hQ
          go_wp2_with fail
          go_end0
          exact ⟨p', lv', kv', L', ks', j', d', rfl, HRES.out⟩
end Go.Proofs.YtigkinakhijfoaaGreat
