/- greatest: the last key of all below a node. -/
import Derived.Test.YtigkinakhijfoaaGreatT
import Derived.Test.YtigkinakhijfoaaGreatPa
namespace Go.Proofs.YtigkinakhijfoaaGreat
open Go.RowKit
set_option maxRecDepth 100000
set_option linter.unusedVariables false
set_option linter.unusedSimpArgs false

def BoxI (w : World) (g : Nat) (x : It) : Prop := w.heap[g]? = some (.cells #[.string x.key, .int .i64 x.val] 106 (0, 0))
theorem results_it {fn : Func} {p : Tmp} (h : fn.results = #[.cell p 106]) (tmps : Array Value) (w : World) (g : Nat) {x : It} (ht : BoxI w g x) (hp : tmps.getD p undef = .pointer (some ⟨g, 0, none⟩)) :
    (results fn tmps).run Tryz.prog w = .ok (.agg #[.string x.key, .int .i64 x.val]) w := by
  have hp' : tmps[p]?.getD undef = .pointer (some ⟨g, 0, none⟩) := by simpa using hp
  have hr : w.rangeAt g 0 [.string x.key, .int .i64 x.val] := by
    intro j v hv
    unfold BoxI at ht
    match j, hv with
    | 0, hv => cases hv; exact (cell_of_row _ _ _ _ _ _ ht).trans rfl
    | 1, hv => cases hv; exact (cell_of_row _ _ _ _ _ _ ht).trans rfl
  simp [results, h, hp', asAddr, run_loadVar_mid (P := Tryz.prog) w g 0 106 [.string x.key, .int .i64 x.val] _ hr Tryz.underlying106 rfl (by kernel_rfl)]
def GrQ (F : List It) (w : World) (e : Ending) (w' : World) : Prop := Fr w w' (fun _ => False) ∧ ∃ F0 x, F = F0 ++ [x] ∧ e = .returned (.agg #[.string x.key, .int .i64 x.val])
def GrI (o : Nat) (cur : Int) (w w0 : World) (F : List It) (h : Nat) (vn : Value) (wr : World) : Prop := ∃ (lo : Nat) (d : Kd) (F0 : List It), vn = .pointer (some ⟨d.g, 0, none⟩) ∧ Sub o cur h lo w d ∧ 1 ≤ lo ∧ Fr w0 wr (fun _ => False) ∧ F = F0 ++ d.F
theorem weave_last {ks : List Kd} {L : List It} (hl : ks.length = L.length + 1) {e : Kd} (he : ks[L.length]? = some e) : ∃ P, weave (ks.map Kd.F) L = P ++ e.F := by
  obtain ⟨h1, _⟩ := node_split hl he
  refine ⟨pre ((ks.take L.length).map Kd.F) (L.take L.length), ?_⟩
  · rw [h1, List.drop_length, show post [] ((ks.drop (L.length + 1)).map Kd.F) = [] from by cases (ks.drop (L.length + 1)).map Kd.F <;> rfl, List.append_nil]
set_option maxHeartbeats 4000000 in
theorem greatest_any {o : Nat} {cur : Int} {h lo : Nat} {w : World} {d : Kd} (hS : Sub o cur h lo w d) (hlo : 1 ≤ lo) (ho2 : 2 ≤ o) (ho : o ≤ 64) : Calls Tryz.prog 59 #[.pointer (some ⟨d.g, 0, none⟩)] w (GrQ d.F w) := by
  obtain ⟨B, hB⟩ : ∃ B, B = w.heap.size := ⟨_, rfl⟩
  obtain ⟨w0, hw0⟩ : ∃ w0, w0 = w.alloc (.cells #[.string ⟨#[]⟩, .int .i64 0] 106) := ⟨_, rfl⟩
  have b0 : BoxI w0 B ⟨⟨#[]⟩, 0⟩ := by rw [hw0, hB]; exact heap_alloc_new w _
  have f0 : Fr w w0 (fun _ => False) := by rw [hw0]; exact Fr.alloc w _ _
  obtain ⟨F, hF⟩ : ∃ F, F = d.F := ⟨_, rfl⟩
  have HST : Hid (GrI o cur w w0 F h (.pointer (some ⟨d.g, 0, none⟩)) w0) := hide ⟨lo, d, [], rfl, hS, hlo, Fr.refl _ _, by rw [hF]; rfl⟩
  rw [← hF]
  have HB0 := hide b0
  have HF0 := hide f0
  have HBB := hide hB
  have HW := hide hw0
  clear hS hlo hF b0 f0 hB hw0
  go_enter Tryz.func59, Tryz.ntmps59
  go_wp2_with (rw [← HW.out, ← HBB.out]; clear HW)
  go_loopw [0] (fun vn wr => ∃ m, GrI o cur w w0 F m vn wr) (fun vn wr => least (fun m => GrI o cur w w0 F m vn wr))
  case atStart => exact ⟨h, HST.out⟩
  case round =>
    rename World => W
    have hm := least_spec hrel
    generalize hmm : least (fun m => GrI o cur w w0 F m _ W) = m at *
    obtain ⟨lo', d', F0, rfl, hsub, hl1, hf, hFe⟩ := hm
    obtain ⟨t, lv, kv, L, ks, hN0, hK0⟩ := sub_iff.1 hsub
    have hN := hN0.fr (HF0.out.two hf) (fun _ _ h => h)
    have HLA := hide (last_any hN.toNodeP)
    have HM := hide hmm
    have HN := hide hN
    have HK := hide hK0
    have HF := hide hf
    have HFE := hide hFe
    have HL1 := hide hl1
    clear hrel hmm hsub hl1 hf hFe hN0 hK0 hN HST
    go_wp2_with fail
    refine HLA.out.mono ?_
    rintro en W0 ⟨rfl, hww⟩
    rw [hww]
    clear hww HLA
    rcases HK.out.len with ⟨h0, hk0⟩ | ⟨h0, hk0⟩
    · have hdz : decide (ks.length = 0) = true := decide_eq_true hk0
      rw [hdz]
      have hkz : ks = [] := List.eq_nil_of_length_eq_zero hk0
      have hFL : d'.F = L := by have hq := HN.out.flat; rw [hkz] at hq; exact hq
      obtain ⟨n0, hn0⟩ : ∃ n0, L.length = n0 + 1 := ⟨L.length - 1, by have := HN.out.low; have := HL1.out; omega⟩
      obtain ⟨⟨xk, xv⟩, hx⟩ : ∃ x, L[n0]? = some x := ⟨_, List.getElem?_eq_getElem (by omega)⟩
      obtain ⟨la, lc, ka, kc', rfl, rfl⟩ := HN.out.shape
      obtain ⟨gl, rfl, c1⟩ := row_cell HN.out.row (encI_get L n0 _ hx).1
      obtain ⟨gl', e', c2⟩ := row_cell HN.out.row (encI_get L n0 _ hx).2
      cases e'
      have x1 := HN.out.cells.2.1
      obtain ⟨n, hn⟩ : ∃ n, L.length = n := ⟨_, rfl⟩
      rw [hn] at x1
      have hlast : F = (F0 ++ L.take n0) ++ [(⟨xk, xv⟩ : It)] := by
        rw [HFE.out, hFL, List.append_assoc]
        congr 1
        obtain ⟨hl, hv⟩ := List.getElem?_eq_some_iff.1 hx
        conv => lhs; rw [← List.take_append_drop n0 L]
        congr 1
        rw [List.drop_eq_getElem_cons hl, hv, List.drop_of_length_le (by omega)]
      have hnn : (n : Int) - 1 = (n0 : Int) := by omega
      have hn0n : n0 < n := by omega
      have hnb : n ≤ 127 := by have := HN.out.high; omega
      have HLAST := hide hlast
      have hBW := HB0.out
      have hb2 : W.heap[B]? = some (.cells #[.string ⟨#[]⟩, .int .i64 0] 106 (0, 0)) := by rw [HF.out.block B (Array.getElem?_eq_some_iff.1 hBW).1 (fun h => h)]; exact hBW
      dsimp only at c1 c2
      clear hdz hkz hFL hx hn hlast hBW hk0 HN HK hn0 h0
      go_wp2_with fail
      refine wp_region_K (fun z => decide (z < 12)) (fun U : World => U = W.drew) (by kernel_rfl) ?_
      obtain ⟨Wd, hWd⟩ : ∃ Wd, Wd = W.drew := ⟨_, rfl⟩
      have Fd : Fr W Wd (fun _ => False) := by rw [hWd]; exact Fr.drew _ _
      rw [← hWd]
      clear hWd
      replace x1 := Fd.cell (fun h => h) x1
      replace c1 := Fd.cell (fun h => h) c1
      replace c2 := Fd.cell (fun h => h) c2
      have hb3 : Wd.heap[B]? = some (.cells #[.string ⟨#[]⟩, .int .i64 0] 106 (0, 0)) := by rw [Fd.block B (Array.getElem?_eq_some_iff.1 hb2).1 (fun h => h)]; exact hb2
      have hS : (fun U : World => U = Wd) Wd := rfl
      refine wpAnyK_takeTo 0 (some 18) (.pointer (some ⟨d'.g, 0, none⟩)) [1, 2, 3, 10, 11, 12] rfl rfl (by kernel_rfl) (by kernel_rfl) (by kernel_rfl) (by kernel_rfl) (fun _ _ _ h => h) hS (Or.inl ⟨rfl, fun w1 hw1 => by have hw1x : w1 = Wd := hw1; subst hw1x; go_simp <;> try (rw [wrap_nat (by omega)])⟩) ?_
      simp only [Act.put, List.setIfInBounds_toArray, List.set_cons_zero, List.set_cons_succ]
      refine wpAnyK_takeTo 1 (some 19) (.pointer (some ⟨d'.g, 0, none⟩)) [2, 3, 10, 11, 12] rfl rfl (by kernel_rfl) (by kernel_rfl) (by kernel_rfl) (by kernel_rfl) (fun _ _ _ h => h) hS (Or.inl ⟨rfl, fun w1 hw1 => by have hw1x : w1 = Wd := hw1; subst hw1x; go_simp <;> try (rw [wrap_nat (by omega)])⟩) ?_
      simp only [Act.put, List.setIfInBounds_toArray, List.set_cons_zero, List.set_cons_succ]
      refine wpAnyK_takeTo 2 (some 20) (.pointer (some ⟨d'.g, 1, none⟩)) [3, 10, 11, 12] rfl rfl (by kernel_rfl) (by kernel_rfl) (by kernel_rfl) (by kernel_rfl) (fun _ _ _ h => h) hS (Or.inl ⟨rfl, fun w1 hw1 => by have hw1x : w1 = Wd := hw1; subst hw1x; go_simp <;> try (rw [wrap_nat (by omega)])⟩) ?_
      simp only [Act.put, List.setIfInBounds_toArray, List.set_cons_zero, List.set_cons_succ]
      refine wpAnyK_takeTo 3 (some 21) (.slice (some ⟨gl, 0, none⟩) n lc) [10, 11, 12] rfl rfl (by kernel_rfl) (by kernel_rfl) (by kernel_rfl) (by kernel_rfl) (fun _ _ _ h => h) hS (Or.inl ⟨rfl, fun w1 hw1 => by have hw1x : w1 = Wd := hw1; subst hw1x; go_simp <;> try (rw [wrap_nat (by omega)])⟩) ?_
      simp only [Act.put, List.setIfInBounds_toArray, List.set_cons_zero, List.set_cons_succ]
      refine wpAnyK_takeTo 4 (some 22) (.pointer (some ⟨d'.g, 0, none⟩)) [5, 6, 7, 8, 9, 10, 11, 12] rfl rfl (by kernel_rfl) (by kernel_rfl) (by kernel_rfl) (by kernel_rfl) (fun _ _ _ h => h) hS (Or.inl ⟨rfl, fun w1 hw1 => by have hw1x : w1 = Wd := hw1; subst hw1x; go_simp <;> try (rw [wrap_nat (by omega)])⟩) ?_
      simp only [Act.put, List.setIfInBounds_toArray, List.set_cons_zero, List.set_cons_succ]
      refine wpAnyK_takeTo 5 (some 23) (.pointer (some ⟨d'.g, 0, none⟩)) [6, 7, 8, 9, 10, 11, 12] rfl rfl (by kernel_rfl) (by kernel_rfl) (by kernel_rfl) (by kernel_rfl) (fun _ _ _ h => h) hS (Or.inl ⟨rfl, fun w1 hw1 => by have hw1x : w1 = Wd := hw1; subst hw1x; go_simp <;> try (rw [wrap_nat (by omega)])⟩) ?_
      simp only [Act.put, List.setIfInBounds_toArray, List.set_cons_zero, List.set_cons_succ]
      refine wpAnyK_takeTo 6 (some 24) (.pointer (some ⟨d'.g, 1, none⟩)) [7, 8, 9, 10, 11, 12] rfl rfl (by kernel_rfl) (by kernel_rfl) (by kernel_rfl) (by kernel_rfl) (fun _ _ _ h => h) hS (Or.inl ⟨rfl, fun w1 hw1 => by have hw1x : w1 = Wd := hw1; subst hw1x; go_simp <;> try (rw [wrap_nat (by omega)])⟩) ?_
      simp only [Act.put, List.setIfInBounds_toArray, List.set_cons_zero, List.set_cons_succ]
      refine wpAnyK_takeTo 7 (some 25) (.slice (some ⟨gl, 0, none⟩) n lc) [8, 9, 10, 11, 12] rfl rfl (by kernel_rfl) (by kernel_rfl) (by kernel_rfl) (by kernel_rfl) (fun _ _ _ h => h) hS (Or.inl ⟨rfl, fun w1 hw1 => by have hw1x : w1 = Wd := hw1; subst hw1x; go_simp <;> try (rw [wrap_nat (by omega)])⟩) ?_
      simp only [Act.put, List.setIfInBounds_toArray, List.set_cons_zero, List.set_cons_succ]
      refine wpAnyK_takeTo 8 (some 26) (.int .i64 (n : Int)) [9, 10, 11, 12] rfl rfl (by kernel_rfl) (by kernel_rfl) (by kernel_rfl) (by kernel_rfl) (fun _ _ _ h => h) hS (Or.inl ⟨rfl, fun w1 hw1 => by have hw1x : w1 = Wd := hw1; subst hw1x; go_simp <;> try (rw [wrap_nat (by omega)])⟩) ?_
      simp only [Act.put, List.setIfInBounds_toArray, List.set_cons_zero, List.set_cons_succ]
      refine wpAnyK_takeTo 9 (some 27) (.int .i64 (n0 : Int)) [10, 11, 12] rfl rfl (by kernel_rfl) (by kernel_rfl) (by kernel_rfl) (by kernel_rfl) (fun _ _ _ h => h) hS (Or.inl ⟨rfl, fun w1 hw1 => by have hw1x : w1 = Wd := hw1; subst hw1x; go_simp <;> try (rw [wrap_nat (by omega)])⟩) ?_
      simp only [Act.put, List.setIfInBounds_toArray, List.set_cons_zero, List.set_cons_succ]
      refine wpAnyK_takeTo 10 (some 28) (.pointer (some ⟨gl, n0 * 2, none⟩)) [11, 12] rfl rfl (by kernel_rfl) (by kernel_rfl) (by kernel_rfl) (by kernel_rfl) (fun _ _ _ h => h) hS (Or.inl ⟨rfl, fun w1 hw1 => by have hw1x : w1 = Wd := hw1; subst hw1x; go_simp <;> try (rw [wrap_nat (by omega)])⟩) ?_
      simp only [Act.put, List.setIfInBounds_toArray, List.set_cons_zero, List.set_cons_succ]
      refine wpAnyK_takeTo 11 (some 29) (.agg #[.string xk, .int .i64 xv]) [12] rfl rfl (by kernel_rfl) (by kernel_rfl) (by kernel_rfl) (by kernel_rfl) (fun _ _ _ h => h) hS (Or.inl ⟨rfl, fun w1 hw1 => by have hw1x : w1 = Wd := hw1; subst hw1x; go_simp <;> try (rw [wrap_nat (by omega)])⟩) ?_
      simp only [Act.put, List.setIfInBounds_toArray, List.set_cons_zero, List.set_cons_succ]
      have y0 : Wd.cell? ⟨B, 0, none⟩ = some (.string ⟨#[]⟩) := (cell_of_row _ _ _ _ _ _ hb3).trans rfl
      have y1 : Wd.cell? ⟨B, 1, none⟩ = some (.int .i64 0) := (cell_of_row _ _ _ _ _ _ hb3).trans rfl
      have z0 := block_frozen hb3 0
      have z1 := block_frozen hb3 1
      obtain ⟨W9, hW9⟩ : ∃ W9, W9 = (Wd.setCell ⟨B, 0, none⟩ (.string xk)).setCell ⟨B, 1, none⟩ (.int .i64 xv) := ⟨_, rfl⟩
      have b9 : BoxI W9 B ⟨xk, xv⟩ := by
        rw [hW9]
        have h1 := heap_setCell_here Wd B 0 (.string xk) _ _ _ hb3
        exact heap_setCell_here _ B 1 (.int .i64 xv) _ _ _ h1
      have F9 : Fr w W9 (fun _ => False) := by
        rw [hW9]
        have h1 := ((HF0.out.two HF.out).two Fd).trans ((Fr.setCell Wd ⟨B, 0, none⟩ (.string xk)).trans (Fr.setCell _ ⟨B, 1, none⟩ (.int .i64 xv)))
        refine h1.mono (fun k hk hz => ?_)
        have hBs := HBB.out
        rcases hz with hz | hz | hz
        · exact hz
        · have hz : k = B := hz
          omega
        · have hz : k = B := hz
          omega
      have HB9 := hide b9
      have HF9 := hide F9
      have HW9 := hide hW9
      clear b9 F9 hW9 hb2 hb3 Fd c1 c2 x1 hS
      refine wpAnyK_one (i := 12) (by kernel_rfl) rfl rfl ?_
      go_simp
      rw [← HW9.out]
      refine wpAnyK_done (by kernel_rfl) ?_ _
      clear HW9 y0 y1 z0 z1
      go_wp2
      exact bodyPost_ret (results_it Tryz.results59 _ _ B HB9.out rfl) rfl ⟨HF9.out, _, _, HLAST.out, rfl⟩
    · have hdz : decide (ks.length = 0) = false := decide_eq_false (by omega)
      rw [hdz]
      clear hdz
      obtain ⟨h', rfl⟩ : ∃ h', m = h' + 1 := ⟨m - 1, by omega⟩
      obtain ⟨e, he⟩ : ∃ e, ks[L.length]? = some e := ⟨_, List.getElem?_eq_getElem (by omega)⟩
      obtain ⟨P, hP⟩ := weave_last hk0 he
      obtain ⟨la, lc, ka, kc', rfl, rfl⟩ := HN.out.shape
      obtain ⟨gk, rfl, cv⟩ := row_cell HN.out.krow (show (ptrs ks)[L.length]? = some (.pointer (some ⟨e.g, 0, none⟩)) by unfold ptrs; rw [List.getElem?_map, he]; rfl)
      have x2 := HN.out.cells.2.2
      obtain ⟨m, hm⟩ : ∃ m, ks.length = m := ⟨_, rfl⟩
      rw [hm] at x2
      obtain ⟨m0, hm0⟩ : ∃ m0, L.length = m0 := ⟨_, rfl⟩
      rw [hm0] at cv
      have hmm0 : (m : Int) - 1 = (m0 : Int) := by omega
      have hm0m : m0 < m := by omega
      have hmb : m ≤ 128 := by have := HN.out.high; omega
      have HRES : Hid (∀ V, Fr w0 V (fun _ => False) → GrI o cur w w0 F h' (.pointer (some ⟨e.g, 0, none⟩)) V) := hide (fun V hV => ⟨o - 1, e, F0 ++ P, rfl, HK.out.2 e (List.mem_of_getElem? he), by omega, hV, by rw [HFE.out, HN.out.flat, hP]; simp⟩)
      clear he hP hk0 hm hm0 HN HK h0
      go_wp2_with fail
      go_quiet (fail)
      go_wp2
      go_roundw
      case rel => exact ⟨h', HRES.out _ (HF.out.two (Fr.drewN _ _ _))⟩
      case measure =>
        refine Nat.lt_of_le_of_lt (least_le (HRES.out _ (HF.out.two (Fr.drewN _ _ _)))) ?_
        rw [HM.out]; omega
end Go.Proofs.YtigkinakhijfoaaGreat

/- Two kids made one: all put together. -/
namespace Go.Proofs.YtigkinakhijfoaaGreat
open Go.RowKit
set_option maxRecDepth 100000
set_option linter.unusedVariables false
set_option linter.unusedSimpArgs false

/-- The node with two kids made one. -/
def MergQ (o : Nat) (cur : Int) (h : Nat) (L : List It) (ks : List Kd) (i : Nat) (w : World) (p : Kd) (e : Ending) (w' : World) : Prop := ∃ (p' : Kd) (lv kv : Value) (d : Kd), e = .returned (.tuple #[]) ∧ p'.g = p.g ∧ p'.F = p.F ∧ NodeV o cur 0 w' p' cur lv kv (L.take i ++ L.drop (i + 1)) (ks.take i ++ d :: ks.drop (i + 2)) ∧ KOk o cur (h + 1) w' (L.take i ++ L.drop (i + 1)) (ks.take i ++ d :: ks.drop (i + 2)) ∧
  (∃ t lv kv Ld ksd, NodeV o cur (o - 1) w' d t lv kv Ld ksd ∧ KOk o cur h w' Ld ksd ∧ o ≤ Ld.length) ∧ (∀ k, p'.X k → p.X k ∨ w.heap.size ≤ k) ∧ (∀ k, p'.Y k → p.Y k ∨ w.heap.size ≤ k) ∧ Fr w w' p.Y
theorem merge_fin {o : Nat} {cur : Int} {h lo : Nat} {w W1 W8 : World} {p p1 d e2 : Kd} {lv kv lb kb lr kr : Value} {L : List It} {ks : List Kd} {Le Lr : List It} {kse ksr : List Kd} {t2 : Int} {i dg : Nat} {mk : ByteArray} {mv : Int} {SA SB SA7 SB9 : Nat → Prop} {lvA kvA lvB kvB : Value} {LA LB : List It} {gsA gB : List Nat}
    (hn1 : NodeV o cur lo W1 p1 cur lv kv L (ks.set i d)) (hk1 : KOk o cur (h + 1) W1 L (ks.set i d)) (hnd : NodeV o cur (o - 1) W1 d cur lb kb Le kse) (hkd : KOk o cur h W1 Le kse) (hi2 : ks[i + 1]? = some e2) (hnr : NodeV o cur (o - 1) W1 e2 t2 lr kr Lr ksr) (hkr : KOk o cur h W1 Lr ksr) (hkl : ks.length = L.length + 1) (hLe : Le.length = o - 1) (hLr : Lr.length = o - 1) (hmk : L[i]? = some ⟨mk, mv⟩) (ho2 : 2 ≤ o)
    (hdg : dg = d.g) (hF1 : p1.F = p.F)
    (rA : Raw W8 p.g cur lvA kvA LA gsA SA7) (rB : Raw W8 dg cur lvB kvB LB gB SB9)
    (hLA : LA = L.take i ++ L.drop (i + 1)) (hgs : gsA = ((ks.set i d).map Kd.g).take (i + 1) ++ ((ks.set i d).map Kd.g).drop (i + 2)) (hLB : LB = Le ++ (⟨mk, mv⟩ : It) :: Lr) (hgB : gB = kse.map Kd.g ++ ksr.map Kd.g)
    (hA7 : ∀ k, SA7 k → SA k ∨ W1.heap.size ≤ k) (hB9 : ∀ k, SB9 k → SB k ∨ W1.heap.size ≤ k) (hAB : ∀ k, SA7 k → ¬ SB9 k)
    (hAX : ∀ k, SA k → p1.X k) (hAY : ∀ k, SA k → p1.Y k) (hAK : ∀ x ∈ ks.set i d, ∀ k, x.X k → ¬ SA k) (hBX : ∀ k, SB k → d.X k) (hBY : ∀ k, SB k → d.Y k) (hBK : ∀ x ∈ kse, ∀ k, x.X k → ¬ SB k)
    (hX1 : ∀ k, p1.X k → p.X k ∨ w.heap.size ≤ k) (hY1 : ∀ k, p1.Y k → p.Y k ∨ w.heap.size ≤ k) (f1 : Fr w W1 p.Y) (f8 : Fr W1 W8 (fun k => SA k ∨ SB k ∨ W1.heap.size ≤ k)) :
    MergQ o cur h L ks i w p (.returned (.tuple #[])) W8 := by
  have hil2 : i + 1 < ks.length := (List.getElem?_eq_some_iff.1 hi2).1
  have hil : i < ks.length := by omega
  have hse : ks.drop (i + 1) = e2 :: ks.drop (i + 2) := by
    obtain ⟨hl, hv⟩ := List.getElem?_eq_some_iff.1 hi2
    rw [← hv, List.getElem_cons_drop]
  have hset : ks.set i d = ks.take i ++ d :: e2 :: ks.drop (i + 2) := by rw [List.set_eq_take_append_cons_drop, if_pos hil, hse]
  have hap : Apart (ks.set i d) := hn1.apart
  have hdm : d ∈ ks.set i d := by rw [hset]; simp
  have hem : e2 ∈ ks.set i d := by rw [hset]; simp
  have hmem : ∀ x, (x ∈ ks.take i ∨ x ∈ ks.drop (i + 2)) → x ∈ ks.set i d := fun x hx => by
    rw [hset]
    rcases hx with hx | hx
    · exact List.mem_append_left _ hx
    · exact List.mem_append_right _ (List.mem_cons_of_mem _ (List.mem_cons_of_mem _ hx))
  have hsz1 := f1.size
  have hsz8 := f8.size
  have hlt1 : ∀ x ∈ ks.set i d, ∀ k, x.X k → k < W1.heap.size := fun x hx k hk => hn1.xlt k (hn1.sx x hx k hk)
  have hap0 := hap
  rw [hset] at hap0
  have hapR : Apart (d :: e2 :: ks.drop (i + 2)) := hap0.right
  have hapR1 : Apart ([d] ++ (e2 :: ks.drop (i + 2))) := hapR
  have hapR2 : Apart ([e2] ++ ks.drop (i + 2)) := hapR1.right
  have hde : ∀ k, d.X k → ¬ e2.X k := fun k hk he => hapR1.cross d (by simp) e2 (by simp) k hk he
  have hxd : ∀ x, (x ∈ ks.take i ∨ x ∈ ks.drop (i + 2)) → ∀ k, x.X k → ¬ d.X k := fun x hx k hk hd => by
    rcases hx with hx | hx
    · exact hap0.cross x hx d (by simp) k hk hd
    · exact hapR1.cross d (by simp) x (List.mem_cons_of_mem _ hx) k hd hk
  have hxe : ∀ x, (x ∈ ks.take i ∨ x ∈ ks.drop (i + 2)) → ∀ k, x.X k → ¬ e2.X k := fun x hx k hk hd => by
    rcases hx with hx | hx
    · exact hap0.cross x hx e2 (by simp) k hk hd
    · exact hapR2.cross e2 (by simp) x hx k hd hk
  have hsub : ∀ x, (x ∈ ks.take i ∨ x ∈ ks.drop (i + 2)) → Sub o cur h (o - 1) W8 x := fun x hx => (hk1.2 x (hmem x hx)).fr f8 (fun k hk hz => by
    rcases hz with hz | hz | hz
    · exact hAK x (hmem x hx) k hk hz
    · exact hxd x hx k hk (hBX k hz)
    · have := hlt1 x (hmem x hx) k hk; omega)
  have hkX : ∀ x ∈ kse ++ ksr, ∀ k, x.X k → (d.X k ∨ e2.X k) := fun x hx k hk => by
    rcases List.mem_append.1 hx with hx | hx
    · exact .inl (hnd.sx x hx k hk)
    · exact .inr (hnr.sx x hx k hk)
  have hkl1 : ∀ x ∈ kse ++ ksr, ∀ k, x.X k → k < W1.heap.size := fun x hx k hk => by
    rcases hkX x hx k hk with h | h
    · exact hlt1 d hdm k h
    · exact hlt1 e2 hem k h
  have hkS : ∀ x ∈ kse ++ ksr, ∀ k, x.X k → ¬ SB k := fun x hx k hk hz => by
    rcases List.mem_append.1 hx with hx | hx
    · exact hBK x hx k hk hz
    · exact hde k (hBX k hz) (hnr.sx x hx k hk)
  have hkfr : ∀ x ∈ kse ++ ksr, ∀ k, x.X k → ¬ (SA k ∨ SB k ∨ W1.heap.size ≤ k) := fun x hx k hk hz => by
    rcases hz with hz | hz | hz
    · rcases hkX x hx k hk with h | h
      · exact hAK d hdm k h hz
      · exact hAK e2 hem k h hz
    · exact hkS x hx k hk hz
    · have := hkl1 x hx k hk; omega
  have hkB : ∀ x ∈ kse ++ ksr, ∀ k, x.X k → ¬ SB9 k := fun x hx k hk hz => by
    rcases hB9 k hz with h | h
    · exact hkS x hx k hk h
    · have := hkl1 x hx k hk; omega
  have hkA : ∀ k, (d.X k ∨ e2.X k) → ¬ SA7 k := fun k hk hz => by
    rcases hA7 k hz with h | h
    · exact hk.elim (fun hk => hAK d hdm k hk h) (fun hk => hAK e2 hem k hk h)
    · exact hk.elim (fun hk => by have := hlt1 d hdm k hk; omega) (fun hk => by have := hlt1 e2 hem k hk; omega)
  have hkY : ∀ x ∈ kse ++ ksr, ∀ k, x.Y k → (d.Y k ∨ e2.Y k) ∧ x.X k := fun x hx k hk => by
    rcases List.mem_append.1 hx with hx | hx
    · exact ⟨.inl (hnd.sy x hx k hk), hnd.yk x hx k hk⟩
    · exact ⟨.inr (hnr.sy x hx k hk), hnr.yk x hx k hk⟩
  have hapk : Apart (kse ++ ksr) := Apart.app hnd.apart hnr.apart (fun x hx y hy k hxk hyk => hde k (hnd.sx x hx k hxk) (hnr.sx y hy k hyk))
  have N1 := (show Raw W8 dg cur lvB kvB LB ((kse ++ ksr).map Kd.g) SB9 by rw [List.map_append, ← hgB]; exact rB).node (fun x hx k hk => ⟨hkB x hx k hk, by have := hkl1 x hx k hk; omega⟩) (fun x hx k hk => (hkY x hx k hk).2) hapk (weave ((kse ++ ksr).map Kd.F) LB)
  obtain ⟨d1, hd1⟩ : ∃ d1 : Kd, d1 = ⟨dg, fun k => SB9 k ∨ ∃ e ∈ kse ++ ksr, e.X k, fun k => SB9 k ∨ ∃ e ∈ kse ++ ksr, e.Y k, weave ((kse ++ ksr).map Kd.F) LB⟩ := ⟨_, rfl⟩
  rw [← hd1] at N1
  have hl1 : LB.length = 2 * o - 1 := by rw [hLB, List.length_append, List.length_cons]; omega
  have V1 : NodeV o cur (o - 1) W8 d1 cur lvB kvB LB (kse ++ ksr) := ⟨N1, by omega, by omega, by rw [hd1]⟩
  have hkf := hkd.fr f8 (fun x hx => hkfr x (List.mem_append_left _ hx))
  have hkg := hkr.fr f8 (fun x hx => hkfr x (List.mem_append_right _ hx))
  have K1 : KOk o cur h W8 LB (kse ++ ksr) := by
    cases h with
    | zero => have h1 : kse = [] := hkd; have h2 : ksr = [] := hkr; rw [h1, h2]; exact rfl
    | succ h => exact ⟨by rw [List.length_append, hkf.1, hkg.1]; omega, fun x hx => (List.mem_append.1 hx).elim (hkf.2 x) (hkg.2 x)⟩
  have h1d : ∀ k, d1.X k → (d.X k ∨ e2.X k) ∨ W1.heap.size ≤ k := fun k hk => by
    rw [hd1] at hk
    rcases hk with hk | ⟨x, hx, hk⟩
    · exact (hB9 k hk).imp (fun h => .inl (hBX k h)) id
    · exact .inl (hkX x hx k hk)
  have h1Y : ∀ k, d1.Y k → (d.Y k ∨ e2.Y k) ∨ W1.heap.size ≤ k := fun k hk => by
    rw [hd1] at hk
    rcases hk with hk | ⟨x, hx, hk⟩
    · exact (hB9 k hk).imp (fun h => .inl (hBY k h)) id
    · exact .inl (hkY x hx k hk).1
  have h1A : ∀ k, d1.X k → ¬ SA7 k := fun k hk hz => by
    rw [hd1] at hk
    rcases hk with hk | ⟨x, hx, hk⟩
    · exact hAB k hz hk
    · exact hkA k (hkX x hx k hk) hz
  have hoA : ∀ x, (x ∈ ks.take i ∨ x ∈ ks.drop (i + 2)) → ∀ k, x.X k → ¬ SA7 k := fun x hx k hk hz => by
    rcases hA7 k hz with h | h
    · exact hAK x (hmem x hx) k hk h
    · have := hlt1 x (hmem x hx) k hk; omega
  have hod : ∀ x, (x ∈ ks.take i ∨ x ∈ ks.drop (i + 2)) → ∀ k, x.X k → ¬ d1.X k := fun x hx k hk hz => by
    rcases h1d k hz with (h | h) | h
    · exact hxd x hx k hk h
    · exact hxe x hx k hk h
    · have := hlt1 x (hmem x hx) k hk; omega
  have hmem' : ∀ x ∈ ks.take i ++ d1 :: ks.drop (i + 2), x = d1 ∨ (x ∈ ks.take i ∨ x ∈ ks.drop (i + 2)) := fun x hx => by
    rcases List.mem_append.1 hx with h | h
    · exact .inr (.inl h)
    · rcases List.mem_cons.1 h with h | h
      · exact .inl h
      · exact .inr (.inr h)
  have hap' : Apart (ks.take i ++ d1 :: ks.drop (i + 2)) := by
    refine hap0.left.app ?_ ?_
    · rw [show d1 :: ks.drop (i + 2) = [d1] ++ ks.drop (i + 2) from rfl]
      refine (Apart.one d1).app hapR2.right ?_
      intro x hx y hy k hxk hyk
      obtain rfl : x = d1 := by simpa using hx
      exact hod y (.inr hy) k hyk hxk
    · intro x hx y hy k hxk hyk
      rcases List.mem_cons.1 hy with rfl | hy
      · exact hod x (.inl hx) k hxk hyk
      · exact hap0.cross x hx y (List.mem_cons_of_mem _ (List.mem_cons_of_mem _ hy)) k hxk hyk
  have htl : (ks.take i).length = i := by rw [List.length_take]; omega
  have hgs' : gsA = (ks.take i ++ d1 :: ks.drop (i + 2)).map Kd.g := by
    rw [hgs, hset]
    have hlen : ((ks.take i ++ [d]).map Kd.g).length = i + 1 := by simp; omega
    have hlen2 : ((ks.take i ++ [d, e2]).map Kd.g).length = i + 2 := by simp; omega
    have e1 : (ks.take i ++ d :: e2 :: ks.drop (i + 2)).map Kd.g = (ks.take i ++ [d]).map Kd.g ++ (e2 :: ks.drop (i + 2)).map Kd.g := by simp
    have e3 : (ks.take i ++ d :: e2 :: ks.drop (i + 2)).map Kd.g = (ks.take i ++ [d, e2]).map Kd.g ++ (ks.drop (i + 2)).map Kd.g := by simp
    have t1 : ((ks.take i ++ d :: e2 :: ks.drop (i + 2)).map Kd.g).take (i + 1) = (ks.take i ++ [d]).map Kd.g := by rw [e1]; exact take_app hlen
    have t2 : ((ks.take i ++ d :: e2 :: ks.drop (i + 2)).map Kd.g).drop (i + 2) = (ks.drop (i + 2)).map Kd.g := by rw [e3, ← hlen2, List.drop_left]
    rw [t1, t2]
    simp [hd1, hdg]
  have NA := (show Raw W8 p.g cur lvA kvA LA ((ks.take i ++ d1 :: ks.drop (i + 2)).map Kd.g) SA7 by rw [← hgs']; exact rA).node (fun x hx k hk => by
      rcases hmem' x hx with rfl | h
      · exact ⟨h1A k hk, N1.xlt k hk⟩
      · exact ⟨hoA x h k hk, by have := hlt1 x (hmem x h) k hk; omega⟩) (fun x hx k hk => by
      rcases hmem' x hx with rfl | h
      · exact N1.yx k hk
      · exact hn1.yk x (hmem x h) k hk) hap' p.F
  have hiL : i < L.length := (List.getElem?_eq_some_iff.1 hmk).1
  have hspl : L.drop i = (⟨mk, mv⟩ : It) :: L.drop (i + 1) := by
    obtain ⟨hl, hv⟩ := List.getElem?_eq_some_iff.1 hmk
    rw [← hv, List.getElem_cons_drop]
  have hflat : p.F = weave ((ks.take i ++ d1 :: ks.drop (i + 2)).map Kd.F) LA := by
    have hA : ((ks.take i).map Kd.F).length = (L.take i).length := by simp; omega
    have hBl : ((ks.drop (i + 2)).map Kd.F).length = (L.drop (i + 1)).length := by simp; omega
    have w1 := weave_at d.F (e2.F :: (ks.drop (i + 2)).map Kd.F) ((⟨mk, mv⟩ : It) :: L.drop (i + 1)) (by simpa using hBl) _ _ hA
    have w2 := weave_at d1.F _ _ hBl _ _ hA
    have hd : d1.F = d.F ++ (⟨mk, mv⟩ : It) :: e2.F := by
      rw [hnd.flat, hnr.flat, hd1, hLB]
      cases h with
      | zero =>
        have h1 : kse = [] := hkd
        have h2 : ksr = [] := hkr
        rw [h1, h2]
        rfl
      | succ h =>
        have hc := weave_cut (⟨mk, mv⟩ : It) (ksr.map Kd.F) Lr (kse.map Kd.F) Le (by have := hkd.1; simpa using this)
        rw [← List.map_append] at hc
        exact hc
    have e1 : weave ((ks.set i d).map Kd.F) L = weave ((ks.take i).map Kd.F ++ d.F :: e2.F :: (ks.drop (i + 2)).map Kd.F) (L.take i ++ (⟨mk, mv⟩ : It) :: L.drop (i + 1)) := by rw [← hspl, List.take_append_drop, hset]; simp
    have e2' : weave ((ks.take i ++ d1 :: ks.drop (i + 2)).map Kd.F) LA = weave ((ks.take i).map Kd.F ++ d1.F :: (ks.drop (i + 2)).map Kd.F) (L.take i ++ L.drop (i + 1)) := by rw [hLA]; simp
    rw [← hF1, hn1.flat, e1, w1, e2', w2, hd, post]
    simp
  have hlLA : LA.length = L.length - 1 := by rw [hLA, List.length_append, List.length_take, List.length_drop]; omega
  have VA : NodeV o cur 0 W8 ⟨p.g, fun k => SA7 k ∨ ∃ e ∈ ks.take i ++ d1 :: ks.drop (i + 2), e.X k, fun k => SA7 k ∨ ∃ e ∈ ks.take i ++ d1 :: ks.drop (i + 2), e.Y k, p.F⟩ cur lvA kvA LA (ks.take i ++ d1 :: ks.drop (i + 2)) := ⟨NA, Nat.zero_le _, by have := hn1.high; omega, hflat⟩
  have KA : KOk o cur (h + 1) W8 LA (ks.take i ++ d1 :: ks.drop (i + 2)) := ⟨by rw [hlLA, List.length_append, List.length_cons, List.length_take, List.length_drop]; omega, fun x hx => by
    rcases hmem' x hx with rfl | h
    · exact sub_iff.2 ⟨_, _, _, _, _, V1, K1⟩
    · exact hsub x h⟩
  rw [hLA] at VA KA
  refine ⟨⟨p.g, fun k => SA7 k ∨ ∃ e ∈ ks.take i ++ d1 :: ks.drop (i + 2), e.X k, fun k => SA7 k ∨ ∃ e ∈ ks.take i ++ d1 :: ks.drop (i + 2), e.Y k, p.F⟩, lvA, kvA, d1, rfl, rfl, rfl, VA, KA, ⟨_, _, _, _, _, V1, K1, by omega⟩, fun k hk => ?_, fun k hk => ?_, (f1.trans f8).mono (fun k hk hz => ?_)⟩
  · have hge : W1.heap.size ≤ k → p.X k ∨ w.heap.size ≤ k := fun h => .inr (by omega)
    rcases hk with hk | ⟨x, hx, hk⟩
    · exact (hA7 k hk).elim (fun h => hX1 k (hAX k h)) hge
    · rcases hmem' x hx with rfl | h
      · rcases h1d k hk with (h | h) | h
        · exact hX1 k (hn1.sx d hdm k h)
        · exact hX1 k (hn1.sx e2 hem k h)
        · exact hge h
      · exact hX1 k (hn1.sx x (hmem x h) k hk)
  · have hge : W1.heap.size ≤ k → p.Y k ∨ w.heap.size ≤ k := fun h => .inr (by omega)
    rcases hk with hk | ⟨x, hx, hk⟩
    · exact (hA7 k hk).elim (fun h => hY1 k (hAY k h)) hge
    · rcases hmem' x hx with rfl | h
      · rcases h1Y k hk with (h | h) | h
        · exact hY1 k (hn1.sy d hdm k h)
        · exact hY1 k (hn1.sy e2 hem k h)
        · exact hge h
      · exact hY1 k (hn1.sy x (hmem x h) k hk)
  · rcases hz with hz | hz | hz | hz
    · exact hz
    · exact (hY1 k (hAY k hz)).elim id (fun h => by omega)
    · exact (hY1 k (hn1.sy d hdm k (hBY k hz))).elim id (fun h => by omega)
    · omega
end Go.Proofs.YtigkinakhijfoaaGreat

/- A key goes from one kid through the node to its neighbour: all put together. -/
namespace Go.Proofs.YtigkinakhijfoaaGreat
open Go.RowKit
set_option maxRecDepth 100000
set_option linter.unusedVariables false
set_option linter.unusedSimpArgs false

/-- The node with another key between two kids. -/
def RotQ (o : Nat) (cur : Int) (h lo : Nat) (L : List It) (A B : List Kd) (i n1 n2 : Nat) (M : List It) (w : World) (p : Kd) (e : Ending) (w' : World) : Prop := ∃ (p' : Kd) (lv kv : Value) (y : It) (d1 d2 : Kd), e = .returned (.tuple #[]) ∧ M[n1]? = some y ∧ p'.g = p.g ∧ p'.F = p.F ∧ NodeV o cur lo w' p' cur lv kv (L.take i ++ y :: L.drop (i + 1)) (A ++ d1 :: d2 :: B) ∧ KOk o cur (h + 1) w' (L.take i ++ y :: L.drop (i + 1)) (A ++ d1 :: d2 :: B) ∧
  (∃ t lv kv Ld ksd, NodeV o cur (o - 1) w' d1 t lv kv Ld ksd ∧ KOk o cur h w' Ld ksd ∧ Ld.length = n1) ∧ (∃ t lv kv Ld ksd, NodeV o cur (o - 1) w' d2 t lv kv Ld ksd ∧ KOk o cur h w' Ld ksd ∧ Ld.length = n2) ∧ (∀ k, p'.X k → p.X k ∨ w.heap.size ≤ k) ∧ (∀ k, p'.Y k → p.Y k ∨ w.heap.size ≤ k) ∧ Fr w w' p.Y
theorem rot_fin {o : Nat} {cur : Int} {h lo : Nat} {w W1 W8 : World} {p p1 d e : Kd} {lv kv lb kb lr kr : Value} {L : List It} {A B : List Kd} {Le Lr : List It} {kse ksr : List Kd} {i dg eg : Nat} {x y : It} {SA SB SC SA7 SB9 SC9 : Nat → Prop} {lvA kvA lvB kvB lvC kvC : Value} {LA LB LC : List It} {kB kC : List Kd} {gsA gB gC : List Nat}
    (hn1 : NodeV o cur lo W1 p1 cur lv kv L (A ++ d :: e :: B)) (hk1 : KOk o cur (h + 1) W1 L (A ++ d :: e :: B)) (hA : A.length = i) (hnd : NodeV o cur (o - 1) W1 d cur lb kb Le kse) (hkd : KOk o cur h W1 Le kse) (hnr : NodeV o cur (o - 1) W1 e cur lr kr Lr ksr) (hkr : KOk o cur h W1 Lr ksr) (hmk : L[i]? = some x)
    (hdg : dg = d.g) (heg : eg = e.g) (hF1 : p1.F = p.F)
    (rA : Raw W8 p.g cur lvA kvA LA gsA SA7) (rB : Raw W8 dg cur lvB kvB LB gB SB9) (rC : Raw W8 eg cur lvC kvC LC gC SC9)
    (hLA : LA = L.take i ++ y :: L.drop (i + 1)) (hgs : gsA = (A ++ d :: e :: B).map Kd.g) (hgB : gB = kB.map Kd.g) (hgC : gC = kC.map Kd.g)
    (hI : Le ++ x :: Lr = LB ++ y :: LC) (hKs : kse ++ ksr = kB ++ kC) (hKB : h ≠ 0 → kB.length = LB.length + 1 ∧ kC.length = LC.length + 1) (hlB : o - 1 ≤ LB.length ∧ LB.length ≤ 2 * o - 1) (hlC : o - 1 ≤ LC.length ∧ LC.length ≤ 2 * o - 1)
    (hA7 : ∀ k, SA7 k → SA k ∨ W1.heap.size ≤ k) (hB9 : ∀ k, SB9 k → SB k ∨ W1.heap.size ≤ k) (hC9 : ∀ k, SC9 k → SC k ∨ W1.heap.size ≤ k) (hAB : ∀ k, SA7 k → ¬ SB9 k) (hAC : ∀ k, SA7 k → ¬ SC9 k) (hBC : ∀ k, SB9 k → ¬ SC9 k)
    (hAX : ∀ k, SA k → p1.X k) (hAY : ∀ k, SA k → p1.Y k) (hAK : ∀ x ∈ A ++ d :: e :: B, ∀ k, x.X k → ¬ SA k) (hBX : ∀ k, SB k → d.X k) (hBY : ∀ k, SB k → d.Y k) (hBK : ∀ x ∈ kse, ∀ k, x.X k → ¬ SB k) (hCX : ∀ k, SC k → e.X k) (hCY : ∀ k, SC k → e.Y k) (hCK : ∀ x ∈ ksr, ∀ k, x.X k → ¬ SC k)
    (hX1 : ∀ k, p1.X k → p.X k ∨ w.heap.size ≤ k) (hY1 : ∀ k, p1.Y k → p.Y k ∨ w.heap.size ≤ k) (f1 : Fr w W1 p.Y) (f8 : Fr W1 W8 (fun k => SA k ∨ SB k ∨ SC k ∨ W1.heap.size ≤ k)) :
    RotQ o cur h lo L A B i LB.length LC.length (Le ++ x :: Lr) w p (.returned (.tuple #[])) W8 := by
  have hap0 : Apart (A ++ d :: e :: B) := hn1.apart
  have hdm : d ∈ A ++ d :: e :: B := by simp
  have hem : e ∈ A ++ d :: e :: B := by simp
  have hmem : ∀ x, (x ∈ A ∨ x ∈ B) → x ∈ A ++ d :: e :: B := fun x hx => by
    rcases hx with hx | hx
    · exact List.mem_append_left _ hx
    · exact List.mem_append_right _ (List.mem_cons_of_mem _ (List.mem_cons_of_mem _ hx))
  have hsz1 := f1.size
  have hsz8 := f8.size
  have hlt1 : ∀ x ∈ A ++ d :: e :: B, ∀ k, x.X k → k < W1.heap.size := fun x hx k hk => hn1.xlt k (hn1.sx x hx k hk)
  have hapR1 : Apart ([d] ++ (e :: B)) := hap0.right
  have hapR2 : Apart ([e] ++ B) := hapR1.right
  have hde : ∀ k, d.X k → ¬ e.X k := fun k hk he => hapR1.cross d (by simp) e (by simp) k hk he
  have hxd : ∀ x, (x ∈ A ∨ x ∈ B) → ∀ k, x.X k → ¬ d.X k := fun x hx k hk hd => by
    rcases hx with hx | hx
    · exact hap0.cross x hx d (by simp) k hk hd
    · exact hapR1.cross d (by simp) x (List.mem_cons_of_mem _ hx) k hd hk
  have hxe : ∀ x, (x ∈ A ∨ x ∈ B) → ∀ k, x.X k → ¬ e.X k := fun x hx k hk hd => by
    rcases hx with hx | hx
    · exact hap0.cross x hx e (by simp) k hk hd
    · exact hapR2.cross e (by simp) x hx k hd hk
  have hsub : ∀ x, (x ∈ A ∨ x ∈ B) → Sub o cur h (o - 1) W8 x := fun x hx => (hk1.2 x (hmem x hx)).fr f8 (fun k hk hz => by
    rcases hz with hz | hz | hz | hz
    · exact hAK x (hmem x hx) k hk hz
    · exact hxd x hx k hk (hBX k hz)
    · exact hxe x hx k hk (hCX k hz)
    · have := hlt1 x (hmem x hx) k hk; omega)
  have hkX : ∀ x ∈ kse ++ ksr, ∀ k, x.X k → (d.X k ∨ e.X k) := fun x hx k hk => by
    rcases List.mem_append.1 hx with hx | hx
    · exact .inl (hnd.sx x hx k hk)
    · exact .inr (hnr.sx x hx k hk)
  have hkl1 : ∀ x ∈ kse ++ ksr, ∀ k, x.X k → k < W1.heap.size := fun x hx k hk => by
    rcases hkX x hx k hk with h | h
    · exact hlt1 d hdm k h
    · exact hlt1 e hem k h
  have hkS : ∀ x ∈ kse ++ ksr, ∀ k, x.X k → ¬ SB k ∧ ¬ SC k := fun x hx k hk => by
    rcases List.mem_append.1 hx with hx | hx
    · exact ⟨hBK x hx k hk, fun hz => hde k (hnd.sx x hx k hk) (hCX k hz)⟩
    · exact ⟨fun hz => hde k (hBX k hz) (hnr.sx x hx k hk), hCK x hx k hk⟩
  have hkfr : ∀ x ∈ kse ++ ksr, ∀ k, x.X k → ¬ (SA k ∨ SB k ∨ SC k ∨ W1.heap.size ≤ k) := fun x hx k hk hz => by
    rcases hz with hz | hz | hz | hz
    · rcases hkX x hx k hk with h | h
      · exact hAK d hdm k h hz
      · exact hAK e hem k h hz
    · exact (hkS x hx k hk).1 hz
    · exact (hkS x hx k hk).2 hz
    · have := hkl1 x hx k hk; omega
  have hkB : ∀ x ∈ kse ++ ksr, ∀ k, x.X k → ¬ SB9 k := fun x hx k hk hz => by
    rcases hB9 k hz with h | h
    · exact (hkS x hx k hk).1 h
    · have := hkl1 x hx k hk; omega
  have hkC : ∀ x ∈ kse ++ ksr, ∀ k, x.X k → ¬ SC9 k := fun x hx k hk hz => by
    rcases hC9 k hz with h | h
    · exact (hkS x hx k hk).2 h
    · have := hkl1 x hx k hk; omega
  have hkA : ∀ k, (d.X k ∨ e.X k) → ¬ SA7 k := fun k hk hz => by
    rcases hA7 k hz with h | h
    · exact hk.elim (fun hk => hAK d hdm k hk h) (fun hk => hAK e hem k hk h)
    · exact hk.elim (fun hk => by have := hlt1 d hdm k hk; omega) (fun hk => by have := hlt1 e hem k hk; omega)
  have hkY : ∀ x ∈ kse ++ ksr, ∀ k, x.Y k → (d.Y k ∨ e.Y k) ∧ x.X k := fun x hx k hk => by
    rcases List.mem_append.1 hx with hx | hx
    · exact ⟨.inl (hnd.sy x hx k hk), hnd.yk x hx k hk⟩
    · exact ⟨.inr (hnr.sy x hx k hk), hnr.yk x hx k hk⟩
  have hapk : Apart (kse ++ ksr) := Apart.app hnd.apart hnr.apart (fun x hx y hy k hxk hyk => hde k (hnd.sx x hx k hxk) (hnr.sx y hy k hyk))
  have hinB : ∀ x ∈ kB, x ∈ kse ++ ksr := fun x hx => by rw [hKs]; exact List.mem_append_left _ hx
  have hinC : ∀ x ∈ kC, x ∈ kse ++ ksr := fun x hx => by rw [hKs]; exact List.mem_append_right _ hx
  have hapBC : Apart (kB ++ kC) := by rw [← hKs]; exact hapk
  have N1 := (show Raw W8 dg cur lvB kvB LB (kB.map Kd.g) SB9 by rw [← hgB]; exact rB).node (fun x hx k hk => ⟨hkB x (hinB x hx) k hk, by have := hkl1 x (hinB x hx) k hk; omega⟩) (fun x hx k hk => (hkY x (hinB x hx) k hk).2) hapBC.left (weave (kB.map Kd.F) LB)
  have N2 := (show Raw W8 eg cur lvC kvC LC (kC.map Kd.g) SC9 by rw [← hgC]; exact rC).node (fun x hx k hk => ⟨hkC x (hinC x hx) k hk, by have := hkl1 x (hinC x hx) k hk; omega⟩) (fun x hx k hk => (hkY x (hinC x hx) k hk).2) hapBC.right (weave (kC.map Kd.F) LC)
  obtain ⟨d1, hd1⟩ : ∃ d1 : Kd, d1 = ⟨dg, fun k => SB9 k ∨ ∃ e ∈ kB, e.X k, fun k => SB9 k ∨ ∃ e ∈ kB, e.Y k, weave (kB.map Kd.F) LB⟩ := ⟨_, rfl⟩
  obtain ⟨d2, hd2⟩ : ∃ d2 : Kd, d2 = ⟨eg, fun k => SC9 k ∨ ∃ e ∈ kC, e.X k, fun k => SC9 k ∨ ∃ e ∈ kC, e.Y k, weave (kC.map Kd.F) LC⟩ := ⟨_, rfl⟩
  rw [← hd1] at N1
  rw [← hd2] at N2
  have V1 : NodeV o cur (o - 1) W8 d1 cur lvB kvB LB kB := ⟨N1, hlB.1, hlB.2, by rw [hd1]⟩
  have V2 : NodeV o cur (o - 1) W8 d2 cur lvC kvC LC kC := ⟨N2, hlC.1, hlC.2, by rw [hd2]⟩
  have hkf := hkd.fr f8 (fun x hx => hkfr x (List.mem_append_left _ hx))
  have hkg := hkr.fr f8 (fun x hx => hkfr x (List.mem_append_right _ hx))
  have hz0 : h = 0 → kse = [] ∧ ksr = [] ∧ kB = [] ∧ kC = [] := fun h0 => by
    subst h0
    have h1 : kse = [] := hkd
    have h2 : ksr = [] := hkr
    have h3 := hKs
    rw [h1, h2] at h3
    have h4 := List.append_eq_nil_iff.1 h3.symm
    exact ⟨h1, h2, h4.1, h4.2⟩
  have K12 : KOk o cur h W8 LB kB ∧ KOk o cur h W8 LC kC := by
    cases h with
    | zero => exact ⟨(hz0 rfl).2.2.1, (hz0 rfl).2.2.2⟩
    | succ h =>
      have hall : ∀ x ∈ kse ++ ksr, Sub o cur h (o - 1) W8 x := fun x hx => (List.mem_append.1 hx).elim (hkf.2 x) (hkg.2 x)
      exact ⟨⟨(hKB (by omega)).1, fun x hx => hall x (hinB x hx)⟩, (hKB (by omega)).2, fun x hx => hall x (hinC x hx)⟩
  have h1d : ∀ k, d1.X k → (d.X k ∨ e.X k) ∨ W1.heap.size ≤ k := fun k hk => by
    rw [hd1] at hk
    rcases hk with hk | ⟨x, hx, hk⟩
    · exact (hB9 k hk).imp (fun h => .inl (hBX k h)) id
    · exact .inl (hkX x (hinB x hx) k hk)
  have h2d : ∀ k, d2.X k → (d.X k ∨ e.X k) ∨ W1.heap.size ≤ k := fun k hk => by
    rw [hd2] at hk
    rcases hk with hk | ⟨x, hx, hk⟩
    · exact (hC9 k hk).imp (fun h => .inr (hCX k h)) id
    · exact .inl (hkX x (hinC x hx) k hk)
  have h1Y : ∀ k, d1.Y k → (d.Y k ∨ e.Y k) ∨ W1.heap.size ≤ k := fun k hk => by
    rw [hd1] at hk
    rcases hk with hk | ⟨x, hx, hk⟩
    · exact (hB9 k hk).imp (fun h => .inl (hBY k h)) id
    · exact .inl (hkY x (hinB x hx) k hk).1
  have h2Y : ∀ k, d2.Y k → (d.Y k ∨ e.Y k) ∨ W1.heap.size ≤ k := fun k hk => by
    rw [hd2] at hk
    rcases hk with hk | ⟨x, hx, hk⟩
    · exact (hC9 k hk).imp (fun h => .inr (hCY k h)) id
    · exact .inl (hkY x (hinC x hx) k hk).1
  have h1A : ∀ k, d1.X k → ¬ SA7 k := fun k hk hz => by
    rw [hd1] at hk
    rcases hk with hk | ⟨x, hx, hk⟩
    · exact hAB k hz hk
    · exact hkA k (hkX x (hinB x hx) k hk) hz
  have h2A : ∀ k, d2.X k → ¬ SA7 k := fun k hk hz => by
    rw [hd2] at hk
    rcases hk with hk | ⟨x, hx, hk⟩
    · exact hAC k hz hk
    · exact hkA k (hkX x (hinC x hx) k hk) hz
  have h12 : ∀ k, d1.X k → ¬ d2.X k := fun k ha hb => by
    rw [hd1] at ha
    rw [hd2] at hb
    rcases ha with ha | ⟨x, hx, ha⟩
    · rcases hb with hb | ⟨y, hy, hb⟩
      · exact hBC k ha hb
      · exact hkB y (hinC y hy) k hb ha
    · rcases hb with hb | ⟨y, hy, hb⟩
      · exact hkC x (hinB x hx) k ha hb
      · exact hapBC.cross x hx y hy k ha hb
  have hoA : ∀ x, (x ∈ A ∨ x ∈ B) → ∀ k, x.X k → ¬ SA7 k := fun x hx k hk hz => by
    rcases hA7 k hz with h | h
    · exact hAK x (hmem x hx) k hk h
    · have := hlt1 x (hmem x hx) k hk; omega
  have hod : ∀ x, (x ∈ A ∨ x ∈ B) → ∀ k, x.X k → ¬ ((d.X k ∨ e.X k) ∨ W1.heap.size ≤ k) := fun x hx k hk hz => by
    rcases hz with (h | h) | h
    · exact hxd x hx k hk h
    · exact hxe x hx k hk h
    · have := hlt1 x (hmem x hx) k hk; omega
  have hmem' : ∀ x ∈ A ++ d1 :: d2 :: B, x = d1 ∨ x = d2 ∨ (x ∈ A ∨ x ∈ B) := fun x hx => by
    rcases List.mem_append.1 hx with h | h
    · exact .inr (.inr (.inl h))
    · rcases List.mem_cons.1 h with h | h
      · exact .inl h
      · rcases List.mem_cons.1 h with h | h
        · exact .inr (.inl h)
        · exact .inr (.inr (.inr h))
  have hap' : Apart (A ++ d1 :: d2 :: B) := by
    refine hap0.left.app ?_ ?_
    · rw [show d1 :: d2 :: B = [d1] ++ ([d2] ++ B) from rfl]
      refine (Apart.one d1).app ((Apart.one d2).app hapR2.right ?_) ?_
      · intro x hx y hy k hxk hyk
        obtain rfl : x = d2 := by simpa using hx
        exact hod y (.inr hy) k hyk (h2d k hxk)
      · intro x hx y hy k hxk hyk
        obtain rfl : x = d1 := by simpa using hx
        rcases List.mem_append.1 hy with hy | hy
        · obtain rfl : y = d2 := by simpa using hy
          exact h12 k hxk hyk
        · exact hod y (.inr hy) k hyk (h1d k hxk)
    · intro x hx y hy k hxk hyk
      rcases List.mem_cons.1 hy with rfl | hy
      · exact hod x (.inl hx) k hxk (h1d k hyk)
      · rcases List.mem_cons.1 hy with rfl | hy
        · exact hod x (.inl hx) k hxk (h2d k hyk)
        · exact hap0.cross x hx y (List.mem_cons_of_mem _ (List.mem_cons_of_mem _ hy)) k hxk hyk
  have hgs' : gsA = (A ++ d1 :: d2 :: B).map Kd.g := by
    rw [hgs]
    simp [hd1, hd2, hdg, heg]
  have NA := (show Raw W8 p.g cur lvA kvA LA ((A ++ d1 :: d2 :: B).map Kd.g) SA7 by rw [← hgs']; exact rA).node (fun x hx k hk => by
      rcases hmem' x hx with rfl | rfl | h
      · exact ⟨h1A k hk, N1.xlt k hk⟩
      · exact ⟨h2A k hk, N2.xlt k hk⟩
      · exact ⟨hoA x h k hk, by have := hlt1 x (hmem x h) k hk; omega⟩) (fun x hx k hk => by
      rcases hmem' x hx with rfl | rfl | h
      · exact N1.yx k hk
      · exact N2.yx k hk
      · exact hn1.yk x (hmem x h) k hk) hap' p.F
  have hiL : i < L.length := (List.getElem?_eq_some_iff.1 hmk).1
  have hkl : A.length + (B.length + 1 + 1) = L.length + 1 := by have := hk1.1; simpa using this
  have hspl : L.drop i = x :: L.drop (i + 1) := by
    obtain ⟨hl, hv⟩ := List.getElem?_eq_some_iff.1 hmk
    rw [← hv, List.getElem_cons_drop]
  have hflat : p.F = weave ((A ++ d1 :: d2 :: B).map Kd.F) LA := by
    have hAl : (A.map Kd.F).length = (L.take i).length := by simp; omega
    have hBl : (B.map Kd.F).length = (L.drop (i + 1)).length := by simp; omega
    have w1 := weave_at d.F (e.F :: B.map Kd.F) (x :: L.drop (i + 1)) (by simpa using hBl) _ _ hAl
    have w2 := weave_at d1.F (d2.F :: B.map Kd.F) (y :: L.drop (i + 1)) (by simpa using hBl) _ _ hAl
    have hd : d.F ++ x :: e.F = d1.F ++ y :: d2.F := by
      rw [hnd.flat, hnr.flat, hd1, hd2]
      dsimp only
      cases h with
      | zero =>
        obtain ⟨h1, h2, h3, h4⟩ := hz0 rfl
        rw [h1, h2, h3, h4]
        exact hI
      | succ h =>
        have hc := weave_cut x (ksr.map Kd.F) Lr (kse.map Kd.F) Le (by have := hkd.1; simpa using this)
        have hc2 := weave_cut y (kC.map Kd.F) LC (kB.map Kd.F) LB (by have := (hKB (by omega)).1; simpa using this)
        rw [← List.map_append] at hc hc2
        rw [← hc, ← hc2, hKs, hI]
    have e1 : weave ((A ++ d :: e :: B).map Kd.F) L = weave (A.map Kd.F ++ d.F :: e.F :: B.map Kd.F) (L.take i ++ x :: L.drop (i + 1)) := by rw [← hspl, List.take_append_drop]; simp
    have e2' : weave ((A ++ d1 :: d2 :: B).map Kd.F) LA = weave (A.map Kd.F ++ d1.F :: d2.F :: B.map Kd.F) (L.take i ++ y :: L.drop (i + 1)) := by rw [hLA]; simp
    rw [← hF1, hn1.flat, e1, w1, e2', w2, post, post]
    have h3 := congrArg (fun z => pre (A.map Kd.F) (L.take i) ++ (z ++ post (L.drop (i + 1)) (B.map Kd.F))) hd
    simpa using h3
  have hlLA : LA.length = L.length := by rw [hLA, List.length_append, List.length_cons, List.length_take, List.length_drop]; omega
  have VA : NodeV o cur lo W8 ⟨p.g, fun k => SA7 k ∨ ∃ e ∈ A ++ d1 :: d2 :: B, e.X k, fun k => SA7 k ∨ ∃ e ∈ A ++ d1 :: d2 :: B, e.Y k, p.F⟩ cur lvA kvA LA (A ++ d1 :: d2 :: B) := ⟨NA, by have := hn1.low; omega, by have := hn1.high; omega, hflat⟩
  have KA : KOk o cur (h + 1) W8 LA (A ++ d1 :: d2 :: B) := ⟨by rw [hlLA, List.length_append, List.length_cons, List.length_cons]; omega, fun x hx => by
    rcases hmem' x hx with rfl | rfl | h
    · exact sub_iff.2 ⟨_, _, _, _, _, V1, K12.1⟩
    · exact sub_iff.2 ⟨_, _, _, _, _, V2, K12.2⟩
    · exact hsub x h⟩
  rw [hLA] at VA KA
  refine ⟨⟨p.g, fun k => SA7 k ∨ ∃ e ∈ A ++ d1 :: d2 :: B, e.X k, fun k => SA7 k ∨ ∃ e ∈ A ++ d1 :: d2 :: B, e.Y k, p.F⟩, lvA, kvA, y, d1, d2, rfl, by rw [hI]; simp, rfl, rfl, VA, KA, ⟨_, _, _, _, _, V1, K12.1, rfl⟩, ⟨_, _, _, _, _, V2, K12.2, rfl⟩, fun k hk => ?_, fun k hk => ?_, (f1.trans f8).mono (fun k hk hz => ?_)⟩
  · have hge : W1.heap.size ≤ k → p.X k ∨ w.heap.size ≤ k := fun h => .inr (by omega)
    have hgo : (d.X k ∨ e.X k) ∨ W1.heap.size ≤ k → p.X k ∨ w.heap.size ≤ k := fun h => by
      rcases h with (h | h) | h
      · exact hX1 k (hn1.sx d hdm k h)
      · exact hX1 k (hn1.sx e hem k h)
      · exact hge h
    rcases hk with hk | ⟨x, hx, hk⟩
    · exact (hA7 k hk).elim (fun h => hX1 k (hAX k h)) hge
    · rcases hmem' x hx with rfl | rfl | h
      · exact hgo (h1d k hk)
      · exact hgo (h2d k hk)
      · exact hX1 k (hn1.sx x (hmem x h) k hk)
  · have hge : W1.heap.size ≤ k → p.Y k ∨ w.heap.size ≤ k := fun h => .inr (by omega)
    have hgo : (d.Y k ∨ e.Y k) ∨ W1.heap.size ≤ k → p.Y k ∨ w.heap.size ≤ k := fun h => by
      rcases h with (h | h) | h
      · exact hY1 k (hn1.sy d hdm k h)
      · exact hY1 k (hn1.sy e hem k h)
      · exact hge h
    rcases hk with hk | ⟨x, hx, hk⟩
    · exact (hA7 k hk).elim (fun h => hY1 k (hAY k h)) hge
    · rcases hmem' x hx with rfl | rfl | h
      · exact hgo (h1Y k hk)
      · exact hgo (h2Y k hk)
      · exact hY1 k (hn1.sy x (hmem x h) k hk)
  · rcases hz with hz | hz | hz | hz | hz
    · exact hz
    · exact (hY1 k (hAY k hz)).elim id (fun h => by omega)
    · exact (hY1 k (hn1.sy d hdm k (hBY k hz))).elim id (fun h => by omega)
    · exact (hY1 k (hn1.sy e hem k (hCY k hz))).elim id (fun h => by omega)
    · omega
end Go.Proofs.YtigkinakhijfoaaGreat

/- Appends to the rows of a node. -/
namespace Go.Proofs.YtigkinakhijfoaaGreat
open Go.RowKit
set_option maxRecDepth 100000
set_option linter.unusedVariables false
set_option linter.unusedSimpArgs false

theorem app_row75 {w : World} {v : Value} {n : Nat} {xs : List Value} (hrow : w.ownsRow 0 106 2 v n xs) {x : Addr} {m c : Nat} {news : List Value} (hl : news.length = m * 2) (hnews : ∀ j u, news[j]? = some u → w.cell? (x.add j) = some u) (h1 : ∀ u ∈ news, u.oneCell' = true) (hn : n + m ≤ 1000) :
    ∃ a' c' w', (Builtin.append_ #[75, 75] 75 #[v, .slice (some x) m c]).run Tryz.prog w = .ok (.slice a' (n + m) c') w' ∧ w'.ownsRow 0 106 2 (.slice a' (n + m) c') (n + m) (xs ++ news) ∧ Fr w w' (fun k => v.ownBlock = some k) ∧ Fresh w v (.slice a' (n + m) c') := by
  obtain ⟨i, hi, hz, hsz, hby⟩ := full75
  obtain ⟨v', W', hr, q1, q2, q3⟩ := run_append_gen (P := Tryz.prog) w 75 75 106 i _ 2 24 Tryz.underlying75 hi hz hsz hby rfl (by omega) v n xs hrow x m c news hl hnews h1 (by unfold maxLen; omega) (by omega)
  obtain ⟨a', c', rfl⟩ := shape_n q1
  exact ⟨a', c', W', hr, q1, Fr.grown q2, q3⟩
theorem app_row58 {w : World} {v : Value} {n : Nat} {xs : List Value} (hrow : w.ownsRow 0 74 1 v n xs) {x : Addr} {m c : Nat} {news : List Value} (hl : news.length = m * 1) (hnews : ∀ j u, news[j]? = some u → w.cell? (x.add j) = some u) (h1 : ∀ u ∈ news, u.oneCell' = true) (hn : n + m ≤ 1000) :
    ∃ a' c' w', (Builtin.append_ #[76, 76] 76 #[v, .slice (some x) m c]).run Tryz.prog w = .ok (.slice a' (n + m) c') w' ∧ w'.ownsRow 0 74 1 (.slice a' (n + m) c') (n + m) (xs ++ news) ∧ Fr w w' (fun k => v.ownBlock = some k) ∧ Fresh w v (.slice a' (n + m) c') := by
  obtain ⟨i, hi, hz, hsz, hby⟩ := full58
  obtain ⟨v', W', hr, q1, q2, q3⟩ := run_append_gen (P := Tryz.prog) w 76 76 74 i _ 1 8 Tryz.underlying76 hi hz hsz hby rfl (by omega) v n xs hrow x m c news hl hnews h1 (by unfold maxLen; omega) (by omega)
  obtain ⟨a', c', rfl⟩ := shape_n q1
  exact ⟨a', c', W', hr, q1, Fr.grown q2, q3⟩
theorem Fresh.trans {w W3 : World} {v v1 v2 : Value} (h1 : Fresh w v v1) (h2 : Fresh W3 v1 v2) (hs : w.heap.size ≤ W3.heap.size) : Fresh w v v2 := by
  rcases h2 with h | ⟨k, h, hk⟩
  · rcases h1 with h3 | ⟨k, h3, hk⟩
    · exact .inl (h.trans h3)
    · exact .inr ⟨k, h.trans h3, hk⟩
  · exact .inr ⟨k, h, by omega⟩
theorem Fresh.up {w W3 : World} {v v1 : Value} (h1 : Fresh W3 v v1) (hs : w.heap.size ≤ W3.heap.size) : Fresh w v v1 := by
  rcases h1 with h3 | ⟨k, h3, hk⟩
  · exact .inl h3
  · exact .inr ⟨k, h3, by omega⟩
theorem Fr.fresh {w W3 W4 : World} {v v1 : Value} (f : Fr w W3 (fun k => v.ownBlock = some k)) (h : Fresh w v v1) (g : Fr W3 W4 (fun k => v1.ownBlock = some k)) : Fr w W4 (fun k => v.ownBlock = some k) := (f.trans g).mono (fun k hk hz => by
  rcases hz with hz | hz
  · exact hz
  · rcases h with h | ⟨q, h, hq⟩
    · rw [h] at hz; exact hz
    · rw [h] at hz; cases hz; omega)
/-- One item more, in a row. -/
theorem app_item {w : World} {v : Value} {n : Nat} {Le : List It} (hrow : w.ownsRow 0 106 2 v n (encI Le)) (mk : ByteArray) (mv : Int) (hn : n ≤ 500) :
    ∃ a' c' w', (Builtin.append_ #[75, 75] 75 #[v, .slice (some ⟨w.heap.size, 0, none⟩) 1 1]).run Tryz.prog (w.alloc (.cells #[.string mk, .int .i64 mv] 106)) = .ok (.slice a' (n + 1) c') w' ∧ w'.ownsRow 0 106 2 (.slice a' (n + 1) c') (n + 1) (encI (Le ++ [⟨mk, mv⟩])) ∧ Fr w w' (fun k => v.ownBlock = some k) ∧ Fresh w v (.slice a' (n + 1) c') := by
  have FA := Fr.alloc w (.cells #[.string mk, .int .i64 mv] 106) (fun _ => False)
  obtain ⟨a', c', w', hr, q1, q2, q3⟩ := app_row75 (ownsRow_fr hrow FA (fun _ _ h => h)) (x := ⟨w.heap.size, 0, none⟩) (m := 1) (c := 1) (news := [.string mk, .int .i64 mv]) rfl (fun j u hu => by
    rw [Addr.add_mid, cell_of_row _ _ _ _ _ _ (heap_alloc_new w _)]
    simpa using hu) (fun u hu => by simp at hu; rcases hu with rfl | rfl <;> rfl) (by omega)
  exact ⟨a', c', w', hr, by rw [encI_append]; exact q1, (FA.mono (fun _ _ h => h.elim)).two q2, q3.up FA.size⟩
/-- A row of items behind another. -/
theorem app_items {w : World} {v : Value} {n m c gr : Nat} {Le Lr : List It} (hrow : w.ownsRow 0 106 2 v n (encI Le)) (hr : w.ownsRow 0 106 2 (.slice (some ⟨gr, 0, none⟩) m c) m (encI Lr)) (hn : n + m ≤ 1000) :
    ∃ a' c' w', (Builtin.append_ #[75, 75] 75 #[v, .slice (some ⟨gr, 0, none⟩) m c]).run Tryz.prog w = .ok (.slice a' (n + m) c') w' ∧ w'.ownsRow 0 106 2 (.slice a' (n + m) c') (n + m) (encI (Le ++ Lr)) ∧ Fr w w' (fun k => v.ownBlock = some k) ∧ Fresh w v (.slice a' (n + m) c') := by
  obtain ⟨a', c', w', h, q1, q2, q3⟩ := app_row75 hrow (x := ⟨gr, 0, none⟩) (m := m) (c := c) (news := encI Lr) hr.1 ((row_cells hr).2 _ rfl) (encI_one Lr) hn
  exact ⟨a', c', w', h, by rw [encI_append]; exact q1, q2, q3⟩
/-- A row of kids behind another. -/
theorem app_kids {w : World} {v : Value} {n m c gr : Nat} {gs gt : List Nat} (hrow : w.ownsRow 0 74 1 v n (pts gs)) (hr : w.ownsRow 0 74 1 (.slice (some ⟨gr, 0, none⟩) m c) m (pts gt)) (hn : n + m ≤ 1000) :
    ∃ a' c' w', (Builtin.append_ #[76, 76] 76 #[v, .slice (some ⟨gr, 0, none⟩) m c]).run Tryz.prog w = .ok (.slice a' (n + m) c') w' ∧ w'.ownsRow 0 74 1 (.slice a' (n + m) c') (n + m) (pts (gs ++ gt)) ∧ Fr w w' (fun k => v.ownBlock = some k) ∧ Fresh w v (.slice a' (n + m) c') := by
  obtain ⟨a', c', w', h, q1, q2, q3⟩ := app_row58 hrow (x := ⟨gr, 0, none⟩) (m := m) (c := c) (news := pts gt) hr.1 ((row_cells hr).2 _ rfl) (pts_one gt) hn
  exact ⟨a', c', w', h, by unfold pts; rw [List.map_append]; exact q1, q2, q3⟩
theorem app_kids_any {w : World} {v u : Value} {n m : Nat} {gs gt : List Nat} (hrow : w.ownsRow 0 74 1 v n (pts gs)) (hr : w.ownsRow 0 74 1 u m (pts gt)) (hn : n + m ≤ 1000) :
    ∃ a' c' w', (Builtin.append_ #[76, 76] 76 #[v, u]).run Tryz.prog w = .ok (.slice a' (n + m) c') w' ∧ w'.ownsRow 0 74 1 (.slice a' (n + m) c') (n + m) (pts (gs ++ gt)) ∧ Fr w w' (fun k => v.ownBlock = some k) ∧ Fresh w v (.slice a' (n + m) c') := by
  have hr' := hr
  rcases hr.2 with ⟨rfl, rfl⟩ | ⟨g, cap, cur, rfl, _⟩
  · obtain ⟨i, hi, _⟩ := full58
    have hg : gt = [] := List.eq_nil_of_length_eq_zero (by have h := hr.1; rw [pts_length] at h; omega)
    obtain ⟨a, c, rfl⟩ := shape_n hrow
    exact ⟨a, c, w, run_append_owned_none (P := Tryz.prog) w 0 76 76 74 i 1 Tryz.underlying76 hi _ n (pts gs) hrow, by rw [hg, List.append_nil]; exact hrow, Fr.refl _ _, .inl rfl⟩
  · exact app_kids hrow hr' hn
def SK2 (dg rg : Nat) (kb kr : Value) (U : World) : Prop := U.cell? ⟨dg, 2, none⟩ = some kb ∧ U.cell? ⟨rg, 2, none⟩ = some kr
end Go.Proofs.YtigkinakhijfoaaGreat
