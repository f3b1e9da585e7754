/- top and kid: the root, and a node's kid, as nodes that may be changed. -/
import Derived.Test.YtigkinakhijfoaaGreatI
namespace Go.Proofs.YtigkinakhijfoaaGreat
open Go.RowKit
set_option maxRecDepth 100000
set_option linter.unusedVariables false
set_option linter.unusedSimpArgs false

theorem row_set {w : World} {e : TypeId} {size : Nat} {a : Option Addr} {n c : Nat} {xs : List Value} (h : w.ownsRow 0 e size (.slice a n c) n xs) (j : Nat) (s : Value) (hj : j < xs.length) (g : Nat) (ha : a = some ⟨g, 0, none⟩) : (w.setCell ⟨g, j, none⟩ s).ownsRow 0 e size (.slice a n c) n (xs.set j s) := by
  subst ha
  rcases h.2 with ⟨h1, _⟩ | ⟨g', cap, cur, h1, hb, hg, hnc, hcm, hcs, htk⟩
  · cases h1
  · cases h1
    refine ⟨by rw [List.length_set]; exact h.1, .inr ⟨g, c, cur.setIfInBounds j s, rfl, Nat.zero_le _, heap_setCell_here w g j s cur e _ hg, hnc, hcm, by simpa using hcs, ?_⟩⟩
    rw [Array.toList_setIfInBounds, List.take_set, htk]
/-- A tree, at its block: what stands in it now. -/
def TopQ (o : Nat) (cur : Int) (h lo : Nat) (L : List It) (ks : List Kd) (w : World) (tb : Nat) (cnt : Int) (d : Kd) (e : Ending) (w' : World) : Prop := ∃ (d' : Kd) (lv kv : Value), e = .returned (.pointer (some ⟨d'.g, 0, none⟩)) ∧ TreeB w' tb o cnt d'.g cur ∧ NodeV o cur lo w' d' cur lv kv L ks ∧ KOk o cur h w' L ks ∧ d'.F = d.F ∧ (∀ k, d'.X k → d.X k ∨ w.heap.size ≤ k) ∧ (∀ k, d'.Y k → d.Y k ∨ w.heap.size ≤ k) ∧ Fr w w' (fun k => k = tb)
theorem TreeB.root {w : World} {tb o : Nat} {cnt : Int} {root : Nat} {cur : Int} (h : TreeB w tb o cnt root cur) (r : Nat) : TreeB (w.setCell ⟨tb, 2, none⟩ (.pointer (some ⟨r, 0, none⟩))) tb o cnt r cur := ⟨heap_setCell_here _ tb 2 _ _ _ _ h.box⟩
set_option maxHeartbeats 4000000 in
theorem top_any {o : Nat} {cur : Int} {h lo : Nat} {w : World} {d : Kd} {t : Int} {lv kv : Value} {L : List It} {ks : List Kd} {tb : Nat} {cnt : Int} (hT : TreeB w tb o cnt d.g cur) (hN : NodeV o cur lo w d t lv kv L ks) (hK : KOk o cur h w L ks) (ho : o ≤ 64) (htb : ¬ d.X tb) : Calls Tryz.prog 50 #[.pointer (some ⟨tb, 0, none⟩)] w (TopQ o cur h lo L ks w tb cnt d) := by
  obtain ⟨_, _, y2, _⟩ := hT.cells
  have HO := hide (own_any hT hN hK ho)
  have HT := hide hT
  have HTB := hide htb
  have HL : Hid (tb < w.heap.size) := hide ((Array.getElem?_eq_some_iff.1 hT.box).1)
  clear hT hN hK htb
  go_enter Tryz.func50, Tryz.ntmps50
  go_wp2_with fail
  refine HO.out.mono ?_
  rintro e w1 ⟨d', lv', kv', rfl, hn', hk', hF, hX, hY, f1⟩
  have ht1 := HT.out.fr f1 (fun h => h)
  obtain ⟨_, _, z2, _⟩ := ht1.cells
  have fz : w1.frozen? ⟨tb, 2, none⟩ = false := by simp [World.frozen?, ht1.box]
  obtain ⟨w2, hw2⟩ : ∃ w2, w2 = w1.setCell ⟨tb, 2, none⟩ (.pointer (some ⟨d'.g, 0, none⟩)) := ⟨_, rfl⟩
  have ht2 : TreeB w2 tb o cnt d'.g cur := by rw [hw2]; exact ht1.root _
  have f2 : Fr w1 w2 (fun k => k = tb) := by rw [hw2]; exact Fr.setCell _ _ _
  have hd : ∀ k, d'.X k → ¬ k = tb := fun k hk e => by
    rcases hX k hk with h | h
    · exact HTB.out (e ▸ h)
    · have := HL.out; omega
  obtain ⟨_, _, y2', _⟩ := ht2.cells
  have HRES : Hid (TopQ o cur h lo L ks w tb cnt d (.returned (.pointer (some ⟨d'.g, 0, none⟩))) w2) := hide ⟨d', lv', kv', rfl, ht2, hn'.fr f2 hd, hk'.fr f2 (fun e he k hk => hd k (hn'.sx e he k hk)), hF, hX, hY, (f1.trans f2).mono (fun k _ h => h.elim (fun h => h.elim) id)⟩
  have HW := hide hw2
  clear HO hn' hk' hF hX hY f1 ht1 ht2 f2 hd hw2 y2
  go_wp2_with (rw [← HW.out]; clear HW)
  go_ret
  exact HRES.out
/-- One kid is another one. -/
theorem NodeP.setKid {cur : Int} {w w' : World} {p : Kd} {t : Int} {lv kv : Value} {L : List It} {ks : List Kd} (hN : NodeP cur w p t lv kv L ks) {i : Nat} {e : Kd} (hi : ks[i]? = some e) (d' : Kd) (F' : List It) (hsz : w.heap.size ≤ w'.heap.size)
    (hbox : w'.heap[p.g]? = some (.cells #[.int .i64 t, lv, kv] 78 (0, 0))) (hrow : w'.ownsRow 0 106 2 lv L.length (encI L)) (hkrow : w'.ownsRow 0 74 1 kv ks.length (ptrs (ks.set i d')))
    (hdx : ∀ k, d'.X k → e.X k ∨ w.heap.size ≤ k) (hdy : ∀ k, d'.Y k → e.Y k ∨ w.heap.size ≤ k) (hyx : ∀ k, d'.Y k → d'.X k) (hdl : ∀ k, d'.X k → k < w'.heap.size) :
    NodeP cur w' ⟨p.g, fun k => p.X k ∨ (w.heap.size ≤ k ∧ k < w'.heap.size), fun k => p.Y k ∨ (w.heap.size ≤ k ∧ k < w'.heap.size), F'⟩ t lv kv L (ks.set i d') := by
  have he : e ∈ ks := List.mem_of_getElem? hi
  have hm : ∀ x ∈ ks.set i d', x = d' ∨ x ∈ ks := fun x hx => (List.mem_or_eq_of_mem_set hx).symm
  have hlt := hN.xlt
  exact {
    box := hbox
    row := hrow
    krow := by rw [List.length_set]; exact hkrow
    gx := .inl hN.gx
    lx := fun k hk => .inl (hN.lx k hk)
    kx := fun k hk => .inl (hN.kx k hk)
    gy := fun ht => .inl (hN.gy ht)
    ly := fun ht k hk => .inl (hN.ly ht k hk)
    ky := fun ht k hk => .inl (hN.ky ht k hk)
    tle := hN.tle
    yx := fun k hk => hk.imp (hN.yx k) id
    xlt := fun k hk => by
      rcases hk with hk | hk
      · have := hlt k hk; omega
      · exact hk.2
    sx := fun x hx k hk => by
      rcases hm x hx with rfl | hx
      · rcases hdx k hk with h | h
        · exact .inl (hN.sx e he k h)
        · exact .inr ⟨h, hdl k hk⟩
      · exact .inl (hN.sx x hx k hk)
    sy := fun x hx k hk => by
      rcases hm x hx with rfl | hx
      · rcases hdy k hk with h | h
        · exact .inl (hN.sy e he k h)
        · exact .inr ⟨h, hdl k (hyx k hk)⟩
      · exact .inl (hN.sy x hx k hk)
    yk := fun x hx k hk => by
      rcases hm x hx with rfl | hx
      · exact hyx k hk
      · exact hN.yk x hx k hk
    apg := fun x hx hk => by
      rcases hm x hx with rfl | hx
      · rcases hdx _ hk with h | h
        · exact hN.apg e he h
        · have := hlt _ hN.gx; dsimp only at h; omega
      · exact hN.apg x hx hk
    apl := fun x hx k hk hxk => by
      rcases hm x hx with rfl | hx
      · rcases hdx _ hxk with h | h
        · exact hN.apl e he k hk h
        · have := hlt _ (hN.lx k hk); omega
      · exact hN.apl x hx k hk hxk
    apk := fun x hx k hk hxk => by
      rcases hm x hx with rfl | hx
      · rcases hdx _ hxk with h | h
        · exact hN.apk e he k hk h
        · have := hlt _ (hN.kx k hk); omega
      · exact hN.apk x hx k hk hxk
    apart := fun a b x y hx hy hab k hxk hyk => by
      have hil : i < ks.length := (List.getElem?_eq_some_iff.1 hi).1
      have key : ∀ (c : Nat) (z : Kd), (ks.set i d')[c]? = some z → (c = i ∧ z = d') ∨ (c ≠ i ∧ ks[c]? = some z) := fun c z hz => by
        rw [List.getElem?_set] at hz
        by_cases hc : i = c
        · subst hc
          rw [if_pos rfl, if_pos hil] at hz
          cases hz
          exact .inl ⟨rfl, rfl⟩
        · rw [if_neg hc] at hz
          exact .inr ⟨fun e => hc e.symm, hz⟩
      have ho : ∀ (c : Nat) (z : Kd), c ≠ i → ks[c]? = some z → d'.X k → ¬ z.X k := fun c z hc hz h1 h2 => by
        rcases hdx k h1 with h | h
        · exact hN.apart i c e z hi hz (fun h => hc h.symm) k h h2
        · have := hlt k (hN.sx z (List.mem_of_getElem? hz) k h2); omega
      rcases key a x hx with ⟨h1, rfl⟩ | ⟨h1, hx'⟩
      · rcases key b y hy with ⟨h2, rfl⟩ | ⟨h2, hy'⟩
        · omega
        · exact ho b y h2 hy' hxk hyk
      · rcases key b y hy with ⟨h2, rfl⟩ | ⟨h2, hy'⟩
        · exact ho a x h1 hx' hyk hxk
        · exact hN.apart a b x y hx' hy' hab k hxk hyk }
/-- What kid reads. -/
def SKid (g gk i r : Nat) (kv : Value) (U : World) : Prop := U.cell? ⟨g, 2, none⟩ = some kv ∧ U.cell? ⟨gk, i, none⟩ = some (.pointer (some ⟨r, 0, none⟩))
theorem SKid.fr {g gk i r : Nat} {kv : Value} {U V : World} (h : SKid g gk i r kv U) (hf : Fr U V (fun _ => False)) : SKid g gk i r kv V := ⟨hf.cell (fun h => h) h.1, hf.cell (fun h => h) h.2⟩
def KidQ (o : Nat) (cur : Int) (h lo : Nat) (lv kv : Value) (L : List It) (ks : List Kd) (i : Nat) (L' : List It) (ks' : List Kd) (w : World) (p e : Kd) (en : Ending) (w' : World) : Prop := ∃ (p' d' : Kd) (lv' kv' : Value), en = .returned (.pointer (some ⟨d'.g, 0, none⟩)) ∧ p'.g = p.g ∧ p'.F = p.F ∧
  NodeV o cur lo w' p' cur lv kv L (ks.set i d') ∧ KOk o cur (h + 1) w' L (ks.set i d') ∧ NodeV o cur (o - 1) w' d' cur lv' kv' L' ks' ∧ KOk o cur h w' L' ks' ∧ d'.F = e.F ∧ (∀ k, p'.X k → p.X k ∨ w.heap.size ≤ k) ∧ (∀ k, p'.Y k → p.Y k ∨ w.heap.size ≤ k) ∧ (∀ k, d'.X k → e.X k ∨ w.heap.size ≤ k) ∧ (∀ k, d'.Y k → e.Y k ∨ w.heap.size ≤ k) ∧ Fr w w' (fun k => kv.ownBlock = some k)
theorem map_set_F {ks : List Kd} {i : Nat} {e d' : Kd} (hi : ks[i]? = some e) (hF : d'.F = e.F) : (ks.set i d').map Kd.F = ks.map Kd.F := by
  have hil : i < ks.length := (List.getElem?_eq_some_iff.1 hi).1
  apply List.ext_getElem?
  intro j
  rw [List.getElem?_map, List.getElem?_map, List.getElem?_set]
  by_cases hc : i = j
  · subst hc
    rw [if_pos rfl, if_pos hil, hi]
    simp [hF]
  · rw [if_neg hc]
set_option maxHeartbeats 4000000 in
theorem kid_any {o : Nat} {cur : Int} {h lo : Nat} {w : World} {p e : Kd} {lv kv : Value} {L : List It} {ks : List Kd} {t' : Int} {lv' kv' : Value} {L' : List It} {ks' : List Kd} {tb root : Nat} {cnt : Int} (hT : TreeB w tb o cnt root cur) (hN : NodeV o cur lo w p cur lv kv L ks) (hK : KOk o cur (h + 1) w L ks) {i : Nat} (hi : ks[i]? = some e) (hNe : NodeV o cur (o - 1) w e t' lv' kv' L' ks') (hKe : KOk o cur h w L' ks') (ho : o ≤ 64) :
    Calls Tryz.prog 51 #[.pointer (some ⟨tb, 0, none⟩), .pointer (some ⟨p.g, 0, none⟩), .int .i64 (i : Int)] w (KidQ o cur h lo lv kv L ks i L' ks' w p e) := by
  obtain ⟨x0, x1, x2⟩ := hN.cells
  obtain ⟨la, lc, ka, kc', rfl, rfl⟩ := hN.shape
  have hil : i < ks.length := (List.getElem?_eq_some_iff.1 hi).1
  obtain ⟨gk, rfl, ck⟩ := row_cell hN.krow (show (ptrs ks)[i]? = some (.pointer (some ⟨e.g, 0, none⟩)) by unfold ptrs; rw [List.getElem?_map, hi]; rfl)
  have hkb : ks.length ≤ 1048576 := by have := hN.high; have := hK.len; omega
  have HO : Hid (∀ V, Fr w V (fun _ => False) → Calls Tryz.prog 86 #[.pointer (some ⟨tb, 0, none⟩), .pointer (some ⟨e.g, 0, none⟩)] V (OwnQ o cur h (o - 1) L' ks' V e)) := hide (fun V hf => own_any (hT.fr hf (fun h => h)) (hNe.fr hf (fun _ _ h => h)) (hKe.fr hf (fun _ _ _ _ h => h)) ho)
  have HSK : Hid (SKid p.g gk i e.g (.slice (some ⟨gk, 0, none⟩) ks.length kc') w) := hide ⟨x2, ck⟩
  have HN := hide hN
  have HK := hide hK
  have HI := hide hi
  obtain ⟨m, hm⟩ : ∃ m, m = ks.length := ⟨_, rfl⟩
  rw [← hm] at HSK hil hkb
  have HM := hide hm
  clear hT hN hK hi hNe hKe hm ck x0 x1 x2
  go_enter Tryz.func51, Tryz.ntmps51
  go_wp2_with fail
  refine wp_region_K (fun z => decide (z < 15)) (SKid p.g gk i e.g (.slice (some ⟨gk, 0, none⟩) m kc')) (by kernel_rfl) ?_
  have fd := Fr.drew w (fun _ => False)
  have hS := HSK.out.fr fd
  refine wpAnyK_takeTo 0 (some 7) (.pointer (some ⟨p.g, 0, none⟩)) [1, 2, 3, 14, 15] rfl rfl (by kernel_rfl) (by kernel_rfl) (by kernel_rfl) (by kernel_rfl) (fun _ _ _ h => h) hS (Or.inl ⟨rfl, fun w1 hw1 => by obtain ⟨q0, q1⟩ := hw1; go_simp⟩) ?_
  simp only [Act.put, List.setIfInBounds_toArray, List.set_cons_zero, List.set_cons_succ]
  refine wpAnyK_takeTo 1 (some 8) (.pointer (some ⟨p.g, 0, none⟩)) [2, 3, 14, 15] rfl rfl (by kernel_rfl) (by kernel_rfl) (by kernel_rfl) (by kernel_rfl) (fun _ _ _ h => h) hS (Or.inl ⟨rfl, fun w1 hw1 => by obtain ⟨q0, q1⟩ := hw1; go_simp⟩) ?_
  simp only [Act.put, List.setIfInBounds_toArray, List.set_cons_zero, List.set_cons_succ]
  refine wpAnyK_takeTo 2 (some 9) (.pointer (some ⟨p.g, 2, none⟩)) [3, 14, 15] rfl rfl (by kernel_rfl) (by kernel_rfl) (by kernel_rfl) (by kernel_rfl) (fun _ _ _ h => h) hS (Or.inl ⟨rfl, fun w1 hw1 => by obtain ⟨q0, q1⟩ := hw1; go_simp⟩) ?_
  simp only [Act.put, List.setIfInBounds_toArray, List.set_cons_zero, List.set_cons_succ]
  refine wpAnyK_takeTo 3 (some 10) (.slice (some ⟨gk, 0, none⟩) m kc') [14, 15] rfl rfl (by kernel_rfl) (by kernel_rfl) (by kernel_rfl) (by kernel_rfl) (fun _ _ _ h => h) hS (Or.inl ⟨rfl, fun w1 hw1 => by obtain ⟨q0, q1⟩ := hw1; go_simp⟩) ?_
  simp only [Act.put, List.setIfInBounds_toArray, List.set_cons_zero, List.set_cons_succ]
  refine wpAnyK_takeTo 4 (some 11) (.int .i64 (i : Int)) [14, 15] rfl rfl (by kernel_rfl) (by kernel_rfl) (by kernel_rfl) (by kernel_rfl) (fun _ _ _ h => h) hS (Or.inl ⟨rfl, fun w1 hw1 => by obtain ⟨q0, q1⟩ := hw1; go_simp⟩) ?_
  simp only [Act.put, List.setIfInBounds_toArray, List.set_cons_zero, List.set_cons_succ]
  refine wpAnyK_takeTo 5 (some 12) (.pointer (some ⟨tb, 0, none⟩)) [13, 14, 15] rfl rfl (by kernel_rfl) (by kernel_rfl) (by kernel_rfl) (by kernel_rfl) (fun _ _ _ h => h) hS (Or.inl ⟨rfl, fun w1 hw1 => by obtain ⟨q0, q1⟩ := hw1; go_simp⟩) ?_
  simp only [Act.put, List.setIfInBounds_toArray, List.set_cons_zero, List.set_cons_succ]
  refine wpAnyK_takeTo 6 (some 13) (.pointer (some ⟨p.g, 0, none⟩)) [7, 8, 9, 11, 12, 13, 14, 15] rfl rfl (by kernel_rfl) (by kernel_rfl) (by kernel_rfl) (by kernel_rfl) (fun _ _ _ h => h) hS (Or.inl ⟨rfl, fun w1 hw1 => by obtain ⟨q0, q1⟩ := hw1; go_simp⟩) ?_
  simp only [Act.put, List.setIfInBounds_toArray, List.set_cons_zero, List.set_cons_succ]
  refine wpAnyK_takeTo 7 (some 14) (.pointer (some ⟨p.g, 0, none⟩)) [8, 9, 11, 12, 13, 14, 15] rfl rfl (by kernel_rfl) (by kernel_rfl) (by kernel_rfl) (by kernel_rfl) (fun _ _ _ h => h) hS (Or.inl ⟨rfl, fun w1 hw1 => by obtain ⟨q0, q1⟩ := hw1; go_simp⟩) ?_
  simp only [Act.put, List.setIfInBounds_toArray, List.set_cons_zero, List.set_cons_succ]
  refine wpAnyK_takeTo 8 (some 15) (.pointer (some ⟨p.g, 2, none⟩)) [9, 11, 12, 13, 14, 15] rfl rfl (by kernel_rfl) (by kernel_rfl) (by kernel_rfl) (by kernel_rfl) (fun _ _ _ h => h) hS (Or.inl ⟨rfl, fun w1 hw1 => by obtain ⟨q0, q1⟩ := hw1; go_simp⟩) ?_
  simp only [Act.put, List.setIfInBounds_toArray, List.set_cons_zero, List.set_cons_succ]
  refine wpAnyK_takeTo 9 (some 16) (.slice (some ⟨gk, 0, none⟩) m kc') [11, 12, 13, 14, 15] rfl rfl (by kernel_rfl) (by kernel_rfl) (by kernel_rfl) (by kernel_rfl) (fun _ _ _ h => h) hS (Or.inl ⟨rfl, fun w1 hw1 => by obtain ⟨q0, q1⟩ := hw1; go_simp⟩) ?_
  simp only [Act.put, List.setIfInBounds_toArray, List.set_cons_zero, List.set_cons_succ]
  refine wpAnyK_takeTo 10 (some 17) (.int .i64 (i : Int)) [11, 12, 13, 14, 15] rfl rfl (by kernel_rfl) (by kernel_rfl) (by kernel_rfl) (by kernel_rfl) (fun _ _ _ h => h) hS (Or.inl ⟨rfl, fun w1 hw1 => by obtain ⟨q0, q1⟩ := hw1; go_simp⟩) ?_
  simp only [Act.put, List.setIfInBounds_toArray, List.set_cons_zero, List.set_cons_succ]
  refine wpAnyK_takeTo 11 (some 18) (.pointer (some ⟨gk, i, none⟩)) [12, 13, 14, 15] rfl rfl (by kernel_rfl) (by kernel_rfl) (by kernel_rfl) (by kernel_rfl) (fun _ _ _ h => h) hS (Or.inl ⟨rfl, fun w1 hw1 => by obtain ⟨q0, q1⟩ := hw1; go_simp⟩) ?_
  simp only [Act.put, List.setIfInBounds_toArray, List.set_cons_zero, List.set_cons_succ]
  refine wpAnyK_takeTo 12 (some 19) (.pointer (some ⟨e.g, 0, none⟩)) [13, 14, 15] rfl rfl (by kernel_rfl) (by kernel_rfl) (by kernel_rfl) (by kernel_rfl) (fun _ _ _ h => h) hS (Or.inl ⟨rfl, fun w1 hw1 => by obtain ⟨q0, q1⟩ := hw1; go_simp⟩) ?_
  simp only [Act.put, List.setIfInBounds_toArray, List.set_cons_zero, List.set_cons_succ]
  refine wpAnyK_one (i := 13) (by kernel_rfl) rfl rfl ?_
  refine wp_call_to (some 20) rfl 86 #[.pointer (some ⟨tb, 0, none⟩), .pointer (some ⟨e.g, 0, none⟩)] (by go_simp) (HO.out _ fd) ?_
  rintro en V1 ⟨d', lw, kw, rfl, hn', hk', hF, hX, hY, g1⟩
  replace hS := hS.fr g1
  refine ⟨_, rfl, fun _ => hS, ?_⟩
  simp only [Act.put, List.setIfInBounds_toArray, List.set_cons_zero, List.set_cons_succ]
  have g2 := fd.two g1
  have hN1 := HN.out.fr g2 (fun _ _ h => h)
  have hlen : i < (ptrs ks).length := by rw [ptrs_length, ← HM.out]; exact hil
  have hkr := row_set hN1.krow i (.pointer (some ⟨d'.g, 0, none⟩)) hlen gk rfl
  obtain ⟨V2, hV2⟩ : ∃ V2, V2 = V1.setCell ⟨gk, i, none⟩ (.pointer (some ⟨d'.g, 0, none⟩)) := ⟨_, rfl⟩
  rw [← hV2] at hkr
  have f2 : Fr V1 V2 (fun k => k = gk) := by rw [hV2]; exact Fr.setCell _ _ _
  have hgk : HN.out.three.2.1 gk rfl = HN.out.three.2.1 gk rfl := rfl
  have hgg : gk ≠ p.g := HN.out.three.2.1 gk rfl
  have hpe : (ptrs ks).set i (.pointer (some ⟨d'.g, 0, none⟩)) = ptrs (ks.set i d') := by unfold ptrs; rw [List.map_set]
  rw [hpe] at hkr
  have he : e ∈ ks := List.mem_of_getElem? HI.out
  have hX1 : ∀ k, d'.X k → e.X k ∨ w.heap.size ≤ k := fun k hk => (hX k hk).imp id (fun h => Nat.le_trans fd.size h)
  have hY1 : ∀ k, d'.Y k → e.Y k ∨ w.heap.size ≤ k := fun k hk => (hY k hk).imp id (fun h => Nat.le_trans fd.size h)
  have hgl : gk < w.heap.size := HN.out.xlt gk (HN.out.kx gk rfl)
  have hgn : ∀ k, d'.X k → ¬ k = gk := fun k hk e1 => by
    rcases hX1 k hk with h | h
    · exact HN.out.apk e he gk rfl (e1 ▸ h)
    · omega
  have hnd := hn'.fr f2 hgn
  have hnew := HN.out.toNodeP.setKid (w' := V2) HI.out d' p.F (Nat.le_trans g2.size f2.size) (by rw [f2.block p.g (hN1.xlt _ hN1.gx) (fun h => hgg h.symm)]; exact hN1.box) (ownsRow_fr hN1.row f2 (fun k hk h => HN.out.three.2.2 k hk (by rw [h]; rfl))) hkr hX1 hY1 hn'.yx hnd.xlt
  have hset : ∀ x ∈ ks.set i d', Sub o cur h (o - 1) V2 x := fun x hx => by
    rcases List.mem_or_eq_of_mem_set hx with hx | rfl
    · exact ((HK.out.2 x hx).fr g2 (fun _ _ h => h)).fr f2 (fun k hk h => HN.out.apk x hx gk rfl (h ▸ hk))
    · exact sub_iff.2 ⟨_, _, _, _, _, hnd, hk'.fr f2 (fun x hx k hk => hgn k (hn'.sx x hx k hk))⟩
  have HRES : Hid (KidQ o cur h lo (.slice la L.length lc) (.slice (some ⟨gk, 0, none⟩) ks.length kc') L ks i L' ks' w p e (.returned (.pointer (some ⟨d'.g, 0, none⟩))) V2) := hide ⟨⟨p.g, fun k => p.X k ∨ (w.heap.size ≤ k ∧ k < V2.heap.size), fun k => p.Y k ∨ (w.heap.size ≤ k ∧ k < V2.heap.size), p.F⟩, d', lw, kw, rfl, rfl, rfl, ⟨hnew, HN.out.low, HN.out.high, by rw [map_set_F HI.out hF]; exact HN.out.flat⟩, ⟨by rw [List.length_set]; exact HK.out.1, hset⟩, hnd, hk'.fr f2 (fun x hx k hk => hgn k (hn'.sx x hx k hk)), hF, fun k hk => hk.imp id And.left, fun k hk => hk.imp id And.left, hX1, hY1, (g2.trans f2).mono (fun k _ h => by
      rcases h with h | h
      · exact h.elim
      · rw [h]; rfl)⟩
  have x2 : V2.cell? ⟨p.g, 2, none⟩ = some (.slice (some ⟨gk, 0, none⟩) m kc') := by rw [HM.out]; exact hnew.cells.2.2
  have ck : V2.cell? ⟨gk, i, none⟩ = some (.pointer (some ⟨d'.g, 0, none⟩)) := by
    obtain ⟨g', e1, c1⟩ := row_cell hkr (show (ptrs (ks.set i d'))[i]? = some (.pointer (some ⟨d'.g, 0, none⟩)) by rw [← hpe, List.getElem?_set]; simp [hlen])
    cases e1
    exact c1
  have hcs : V1.cell? ⟨gk, i, none⟩ = some (.pointer (some ⟨e.g, 0, none⟩)) := hS.2
  have hfz : V1.frozen? ⟨gk, i, none⟩ = false := by
    rcases hN1.krow.2 with ⟨h1, _⟩ | ⟨g', cap, cr, h1, _, hb, _⟩
    · cases h1
    · cases h1; exact block_frozen hb _
  have HW := hide hV2
  rw [← HM.out] at HRES
  clear hN1 hlen hkr f2 hgk hgg hpe he hX1 hY1 hgl hgn hnd hnew hset hn' hk' hF hX hY g1 g2 hV2
  refine wpAnyK_one (i := 14) (by kernel_rfl) rfl rfl ?_
  go_simp
  refine wpAnyK_one (i := 15) (by kernel_rfl) rfl rfl ?_
  go_simp
  rw [← HW.out]
  refine wpAnyK_done (by kernel_rfl) ?_ _
  clear hS hcs hfz fd HW
  go_wp2
  go_ret
  have hr := HRES.out
  rw [HM.out] at hr
  exact hr
end Go.Proofs.YtigkinakhijfoaaGreat
