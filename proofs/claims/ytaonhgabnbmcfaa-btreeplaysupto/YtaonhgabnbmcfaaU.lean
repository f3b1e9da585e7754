/- greatest: the last key of all below a node. -/
import Derived.Test.YtaonhgabnbmcfaaT
namespace Go.Proofs.Ytaonhgabnbmcfaa
open Go.RowKit
set_option maxRecDepth 100000
set_option linter.unusedVariables false
set_option linter.unusedSimpArgs false

def BoxI (w : World) (g : Nat) (x : It) : Prop := w.heap[g]? = some (.cells #[.string x.key, .int .i64 x.val] 75 (0, 0))
theorem results_it {fn : Func} {p : Tmp} (h : fn.results = #[.cell p 75]) (tmps : Array Value) (w : World) (g : Nat) {x : It} (ht : BoxI w g x) (hp : tmps.getD p undef = .pointer (some ⟨g, 0, none⟩)) :
    (results fn tmps).run Try.prog w = .ok (.agg #[.string x.key, .int .i64 x.val]) w := by
  have hp' : tmps[p]?.getD undef = .pointer (some ⟨g, 0, none⟩) := by simpa using hp
  have hr : w.rangeAt g 0 [.string x.key, .int .i64 x.val] := by
    intro j v hv
    unfold BoxI at ht
    match j, hv with
    | 0, hv => cases hv; exact (cell_of_row _ _ _ _ _ _ ht).trans rfl
    | 1, hv => cases hv; exact (cell_of_row _ _ _ _ _ _ ht).trans rfl
  simp [results, h, hp', asAddr, run_loadVar_mid (P := Try.prog) w g 0 75 [.string x.key, .int .i64 x.val] _ hr Try.underlying75 rfl (by kernel_rfl)]
def GrQ (F : List It) (w : World) (e : Ending) (w' : World) : Prop := Fr w w' (fun _ => False) ∧ ∃ F0 x, F = F0 ++ [x] ∧ e = .returned (.agg #[.string x.key, .int .i64 x.val])
def GrI (o : Nat) (cur : Int) (w w0 : World) (F : List It) (h : Nat) (vn : Value) (wr : World) : Prop := ∃ (lo : Nat) (d : Kd) (F0 : List It), vn = .pointer (some ⟨d.g, 0, none⟩) ∧ Sub o cur h lo w d ∧ 1 ≤ lo ∧ Fr w0 wr (fun _ => False) ∧ F = F0 ++ d.F
theorem weave_last {ks : List Kd} {L : List It} (hl : ks.length = L.length + 1) {e : Kd} (he : ks[L.length]? = some e) : ∃ P, weave (ks.map Kd.F) L = P ++ e.F := by
  obtain ⟨h1, _⟩ := node_split hl he
  refine ⟨pre ((ks.take L.length).map Kd.F) (L.take L.length), ?_⟩
  · rw [h1, List.drop_length, show post [] ((ks.drop (L.length + 1)).map Kd.F) = [] from by cases (ks.drop (L.length + 1)).map Kd.F <;> rfl, List.append_nil]
set_option maxHeartbeats 4000000 in
theorem greatest_any {o : Nat} {cur : Int} {h lo : Nat} {w : World} {d : Kd} (hS : Sub o cur h lo w d) (hlo : 1 ≤ lo) (ho2 : 2 ≤ o) (ho : o ≤ 64) : Calls Try.prog 39 #[.pointer (some ⟨d.g, 0, none⟩)] w (GrQ d.F w) := by
  obtain ⟨B, hB⟩ : ∃ B, B = w.heap.size := ⟨_, rfl⟩
  obtain ⟨w0, hw0⟩ : ∃ w0, w0 = w.alloc (.cells #[.string ⟨#[]⟩, .int .i64 0] 75) := ⟨_, rfl⟩
  have b0 : BoxI w0 B ⟨⟨#[]⟩, 0⟩ := by rw [hw0, hB]; exact heap_alloc_new w _
  have f0 : Fr w w0 (fun _ => False) := by rw [hw0]; exact Fr.alloc w _ _
  obtain ⟨F, hF⟩ : ∃ F, F = d.F := ⟨_, rfl⟩
  have HST : Hid (GrI o cur w w0 F h (.pointer (some ⟨d.g, 0, none⟩)) w0) := hide ⟨lo, d, [], rfl, hS, hlo, Fr.refl _ _, by rw [hF]; rfl⟩
  rw [← hF]
  have HB0 := hide b0
  have HF0 := hide f0
  have HBB := hide hB
  have HW := hide hw0
  clear hS hlo hF b0 f0 hB hw0
  go_enter Try.func39, Try.ntmps39
  go_wp2_with (rw [← HW.out, ← HBB.out]; clear HW)
  go_loopw [0] (fun vn wr => ∃ m, GrI o cur w w0 F m vn wr) (fun vn wr => least (fun m => GrI o cur w w0 F m vn wr))
  case atStart => exact ⟨h, HST.out⟩
  case round =>
    rename World => W
    have hm := least_spec hrel
    generalize hmm : least (fun m => GrI o cur w w0 F m _ W) = m at *
    obtain ⟨lo', d', F0, rfl, hsub, hl1, hf, hFe⟩ := hm
    obtain ⟨t, lv, kv, L, ks, hN0, hK0⟩ := sub_iff.1 hsub
    have hN := hN0.fr (HF0.out.two hf) (fun _ _ h => h)
    have HLA := hide (last_any hN.toNodeP)
    have HM := hide hmm
    have HN := hide hN
    have HK := hide hK0
    have HF := hide hf
    have HFE := hide hFe
    have HL1 := hide hl1
    clear hrel hmm hsub hl1 hf hFe hN0 hK0 hN HST
    go_wp2_with fail
    refine HLA.out.mono ?_
    rintro en W0 ⟨rfl, hww⟩
    rw [hww]
    clear hww HLA
    rcases HK.out.len with ⟨h0, hk0⟩ | ⟨h0, hk0⟩
    · have hdz : decide (ks.length = 0) = true := decide_eq_true hk0
      rw [hdz]
      have hkz : ks = [] := List.eq_nil_of_length_eq_zero hk0
      have hFL : d'.F = L := by have hq := HN.out.flat; rw [hkz] at hq; exact hq
      obtain ⟨n0, hn0⟩ : ∃ n0, L.length = n0 + 1 := ⟨L.length - 1, by have := HN.out.low; have := HL1.out; omega⟩
      obtain ⟨⟨xk, xv⟩, hx⟩ : ∃ x, L[n0]? = some x := ⟨_, List.getElem?_eq_getElem (by omega)⟩
      obtain ⟨la, lc, ka, kc', rfl, rfl⟩ := HN.out.shape
      obtain ⟨gl, rfl, c1⟩ := row_cell HN.out.row (encI_get L n0 _ hx).1
      obtain ⟨gl', e', c2⟩ := row_cell HN.out.row (encI_get L n0 _ hx).2
      cases e'
      have x1 := HN.out.cells.2.1
      obtain ⟨n, hn⟩ : ∃ n, L.length = n := ⟨_, rfl⟩
      rw [hn] at x1
      have hlast : F = (F0 ++ L.take n0) ++ [(⟨xk, xv⟩ : It)] := by
        rw [HFE.out, hFL, List.append_assoc]
        congr 1
        obtain ⟨hl, hv⟩ := List.getElem?_eq_some_iff.1 hx
        conv => lhs; rw [← List.take_append_drop n0 L]
        congr 1
        rw [List.drop_eq_getElem_cons hl, hv, List.drop_of_length_le (by omega)]
      have hnn : (n : Int) - 1 = (n0 : Int) := by omega
      have hn0n : n0 < n := by omega
      have hnb : n ≤ 127 := by have := HN.out.high; omega
      have HLAST := hide hlast
      have hBW := HB0.out
      have hb2 : W.heap[B]? = some (.cells #[.string ⟨#[]⟩, .int .i64 0] 75 (0, 0)) := by rw [HF.out.block B (Array.getElem?_eq_some_iff.1 hBW).1 (fun h => h)]; exact hBW
      dsimp only at c1 c2
      clear hdz hkz hFL hx hn hlast hBW hk0 HN HK hn0 h0
      go_wp2_with fail
      refine wp_region_K (fun z => decide (z < 12)) (fun U : World => U = W.drew) (by kernel_rfl) ?_
      obtain ⟨Wd, hWd⟩ : ∃ Wd, Wd = W.drew := ⟨_, rfl⟩
      have Fd : Fr W Wd (fun _ => False) := by rw [hWd]; exact Fr.drew _ _
      rw [← hWd]
      clear hWd
      replace x1 := Fd.cell (fun h => h) x1
      replace c1 := Fd.cell (fun h => h) c1
      replace c2 := Fd.cell (fun h => h) c2
      have hb3 : Wd.heap[B]? = some (.cells #[.string ⟨#[]⟩, .int .i64 0] 75 (0, 0)) := by rw [Fd.block B (Array.getElem?_eq_some_iff.1 hb2).1 (fun h => h)]; exact hb2
      have hS : (fun U : World => U = Wd) Wd := rfl
      refine wpAnyK_takeTo 0 (some 18) (.pointer (some ⟨d'.g, 0, none⟩)) [1, 2, 3, 10, 11, 12] rfl rfl (by kernel_rfl) (by kernel_rfl) (by kernel_rfl) (by kernel_rfl) (fun _ _ _ h => h) hS (Or.inl ⟨rfl, fun w1 hw1 => by have hw1x : w1 = Wd := hw1; subst hw1x; go_simp <;> try (rw [wrap_nat (by omega)])⟩) ?_
      simp only [Act.put, List.setIfInBounds_toArray, List.set_cons_zero, List.set_cons_succ]
      refine wpAnyK_takeTo 1 (some 19) (.pointer (some ⟨d'.g, 0, none⟩)) [2, 3, 10, 11, 12] rfl rfl (by kernel_rfl) (by kernel_rfl) (by kernel_rfl) (by kernel_rfl) (fun _ _ _ h => h) hS (Or.inl ⟨rfl, fun w1 hw1 => by have hw1x : w1 = Wd := hw1; subst hw1x; go_simp <;> try (rw [wrap_nat (by omega)])⟩) ?_
      simp only [Act.put, List.setIfInBounds_toArray, List.set_cons_zero, List.set_cons_succ]
      refine wpAnyK_takeTo 2 (some 20) (.pointer (some ⟨d'.g, 1, none⟩)) [3, 10, 11, 12] rfl rfl (by kernel_rfl) (by kernel_rfl) (by kernel_rfl) (by kernel_rfl) (fun _ _ _ h => h) hS (Or.inl ⟨rfl, fun w1 hw1 => by have hw1x : w1 = Wd := hw1; subst hw1x; go_simp <;> try (rw [wrap_nat (by omega)])⟩) ?_
      simp only [Act.put, List.setIfInBounds_toArray, List.set_cons_zero, List.set_cons_succ]
      refine wpAnyK_takeTo 3 (some 21) (.slice (some ⟨gl, 0, none⟩) n lc) [10, 11, 12] rfl rfl (by kernel_rfl) (by kernel_rfl) (by kernel_rfl) (by kernel_rfl) (fun _ _ _ h => h) hS (Or.inl ⟨rfl, fun w1 hw1 => by have hw1x : w1 = Wd := hw1; subst hw1x; go_simp <;> try (rw [wrap_nat (by omega)])⟩) ?_
      simp only [Act.put, List.setIfInBounds_toArray, List.set_cons_zero, List.set_cons_succ]
      refine wpAnyK_takeTo 4 (some 22) (.pointer (some ⟨d'.g, 0, none⟩)) [5, 6, 7, 8, 9, 10, 11, 12] rfl rfl (by kernel_rfl) (by kernel_rfl) (by kernel_rfl) (by kernel_rfl) (fun _ _ _ h => h) hS (Or.inl ⟨rfl, fun w1 hw1 => by have hw1x : w1 = Wd := hw1; subst hw1x; go_simp <;> try (rw [wrap_nat (by omega)])⟩) ?_
      simp only [Act.put, List.setIfInBounds_toArray, List.set_cons_zero, List.set_cons_succ]
      refine wpAnyK_takeTo 5 (some 23) (.pointer (some ⟨d'.g, 0, none⟩)) [6, 7, 8, 9, 10, 11, 12] rfl rfl (by kernel_rfl) (by kernel_rfl) (by kernel_rfl) (by kernel_rfl) (fun _ _ _ h => h) hS (Or.inl ⟨rfl, fun w1 hw1 => by have hw1x : w1 = Wd := hw1; subst hw1x; go_simp <;> try (rw [wrap_nat (by omega)])⟩) ?_
      simp only [Act.put, List.setIfInBounds_toArray, List.set_cons_zero, List.set_cons_succ]
      refine wpAnyK_takeTo 6 (some 24) (.pointer (some ⟨d'.g, 1, none⟩)) [7, 8, 9, 10, 11, 12] rfl rfl (by kernel_rfl) (by kernel_rfl) (by kernel_rfl) (by kernel_rfl) (fun _ _ _ h => h) hS (Or.inl ⟨rfl, fun w1 hw1 => by have hw1x : w1 = Wd := hw1; subst hw1x; go_simp <;> try (rw [wrap_nat (by omega)])⟩) ?_
      simp only [Act.put, List.setIfInBounds_toArray, List.set_cons_zero, List.set_cons_succ]
      refine wpAnyK_takeTo 7 (some 25) (.slice (some ⟨gl, 0, none⟩) n lc) [8, 9, 10, 11, 12] rfl rfl (by kernel_rfl) (by kernel_rfl) (by kernel_rfl) (by kernel_rfl) (fun _ _ _ h => h) hS (Or.inl ⟨rfl, fun w1 hw1 => by have hw1x : w1 = Wd := hw1; subst hw1x; go_simp <;> try (rw [wrap_nat (by omega)])⟩) ?_
      simp only [Act.put, List.setIfInBounds_toArray, List.set_cons_zero, List.set_cons_succ]
      refine wpAnyK_takeTo 8 (some 26) (.int .i64 (n : Int)) [9, 10, 11, 12] rfl rfl (by kernel_rfl) (by kernel_rfl) (by kernel_rfl) (by kernel_rfl) (fun _ _ _ h => h) hS (Or.inl ⟨rfl, fun w1 hw1 => by have hw1x : w1 = Wd := hw1; subst hw1x; go_simp <;> try (rw [wrap_nat (by omega)])⟩) ?_
      simp only [Act.put, List.setIfInBounds_toArray, List.set_cons_zero, List.set_cons_succ]
      refine wpAnyK_takeTo 9 (some 27) (.int .i64 (n0 : Int)) [10, 11, 12] rfl rfl (by kernel_rfl) (by kernel_rfl) (by kernel_rfl) (by kernel_rfl) (fun _ _ _ h => h) hS (Or.inl ⟨rfl, fun w1 hw1 => by have hw1x : w1 = Wd := hw1; subst hw1x; go_simp <;> try (rw [wrap_nat (by omega)])⟩) ?_
      simp only [Act.put, List.setIfInBounds_toArray, List.set_cons_zero, List.set_cons_succ]
      refine wpAnyK_takeTo 10 (some 28) (.pointer (some ⟨gl, n0 * 2, none⟩)) [11, 12] rfl rfl (by kernel_rfl) (by kernel_rfl) (by kernel_rfl) (by kernel_rfl) (fun _ _ _ h => h) hS (Or.inl ⟨rfl, fun w1 hw1 => by have hw1x : w1 = Wd := hw1; subst hw1x; go_simp <;> try (rw [wrap_nat (by omega)])⟩) ?_
      simp only [Act.put, List.setIfInBounds_toArray, List.set_cons_zero, List.set_cons_succ]
      refine wpAnyK_takeTo 11 (some 29) (.agg #[.string xk, .int .i64 xv]) [12] rfl rfl (by kernel_rfl) (by kernel_rfl) (by kernel_rfl) (by kernel_rfl) (fun _ _ _ h => h) hS (Or.inl ⟨rfl, fun w1 hw1 => by have hw1x : w1 = Wd := hw1; subst hw1x; go_simp <;> try (rw [wrap_nat (by omega)])⟩) ?_
      simp only [Act.put, List.setIfInBounds_toArray, List.set_cons_zero, List.set_cons_succ]
      have y0 : Wd.cell? ⟨B, 0, none⟩ = some (.string ⟨#[]⟩) := (cell_of_row _ _ _ _ _ _ hb3).trans rfl
      have y1 : Wd.cell? ⟨B, 1, none⟩ = some (.int .i64 0) := (cell_of_row _ _ _ _ _ _ hb3).trans rfl
      have z0 := block_frozen hb3 0
      have z1 := block_frozen hb3 1
      obtain ⟨W9, hW9⟩ : ∃ W9, W9 = (Wd.setCell ⟨B, 0, none⟩ (.string xk)).setCell ⟨B, 1, none⟩ (.int .i64 xv) := ⟨_, rfl⟩
      have b9 : BoxI W9 B ⟨xk, xv⟩ := by
        rw [hW9]
        have h1 := heap_setCell_here Wd B 0 (.string xk) _ _ _ hb3
        exact heap_setCell_here _ B 1 (.int .i64 xv) _ _ _ h1
      have F9 : Fr w W9 (fun _ => False) := by
        rw [hW9]
        have h1 := ((HF0.out.two HF.out).two Fd).trans ((Fr.setCell Wd ⟨B, 0, none⟩ (.string xk)).trans (Fr.setCell _ ⟨B, 1, none⟩ (.int .i64 xv)))
        refine h1.mono (fun k hk hz => ?_)
        have hBs := HBB.out
        rcases hz with hz | hz | hz
        · exact hz
        · have hz : k = B := hz
          omega
        · have hz : k = B := hz
          omega
      have HB9 := hide b9
      have HF9 := hide F9
      have HW9 := hide hW9
      clear b9 F9 hW9 hb2 hb3 Fd c1 c2 x1 hS
      refine wpAnyK_one (i := 12) (by kernel_rfl) rfl rfl ?_
      go_simp
      rw [← HW9.out]
      refine wpAnyK_done (by kernel_rfl) ?_ _
      clear HW9 y0 y1 z0 z1
      go_wp2
      exact bodyPost_ret (results_it Try.results39 _ _ B HB9.out rfl) rfl ⟨HF9.out, _, _, HLAST.out, rfl⟩
    · have hdz : decide (ks.length = 0) = false := decide_eq_false (by omega)
      rw [hdz]
      clear hdz
      obtain ⟨h', rfl⟩ : ∃ h', m = h' + 1 := ⟨m - 1, by omega⟩
      obtain ⟨e, he⟩ : ∃ e, ks[L.length]? = some e := ⟨_, List.getElem?_eq_getElem (by omega)⟩
      obtain ⟨P, hP⟩ := weave_last hk0 he
      obtain ⟨la, lc, ka, kc', rfl, rfl⟩ := HN.out.shape
      obtain ⟨gk, rfl, cv⟩ := row_cell HN.out.krow (show (ptrs ks)[L.length]? = some (.pointer (some ⟨e.g, 0, none⟩)) by unfold ptrs; rw [List.getElem?_map, he]; rfl)
      have x2 := HN.out.cells.2.2
      obtain ⟨m, hm⟩ : ∃ m, ks.length = m := ⟨_, rfl⟩
      rw [hm] at x2
      obtain ⟨m0, hm0⟩ : ∃ m0, L.length = m0 := ⟨_, rfl⟩
      rw [hm0] at cv
      have hmm0 : (m : Int) - 1 = (m0 : Int) := by omega
      have hm0m : m0 < m := by omega
      have hmb : m ≤ 128 := by have := HN.out.high; omega
      have HRES : Hid (∀ V, Fr w0 V (fun _ => False) → GrI o cur w w0 F h' (.pointer (some ⟨e.g, 0, none⟩)) V) := hide (fun V hV => ⟨o - 1, e, F0 ++ P, rfl, HK.out.2 e (List.mem_of_getElem? he), by omega, hV, by rw [HFE.out, HN.out.flat, hP]; simp⟩)
      clear he hP hk0 hm hm0 HN HK h0
      go_wp2_with fail
      go_quiet (fail)
      go_wp2
      go_roundw
      case rel => exact ⟨h', HRES.out _ (HF.out.two (Fr.drewN _ _ _))⟩
      case measure =>
        refine Nat.lt_of_le_of_lt (least_le (HRES.out _ (HF.out.two (Fr.drewN _ _ _)))) ?_
        rw [HM.out]; omega
end Go.Proofs.Ytaonhgabnbmcfaa
