/- The document's Row. -/
import Derived.Test.YtdeopneififnnaaQa
import Derived.Test.YtdeopneififnnaaSa
namespace Go.Proofs.Ytdeopneififnnaa
open Go.RowKit
set_option maxRecDepth 100000
set_option linter.unusedVariables false
set_option linter.unusedSimpArgs false

set_option maxHeartbeats 16000000 in
theorem row_ref {P : Nat → Prop} {w : World} (t : Tb) (h : TabIn P w t) : Calls Try.prog 23 #[t.agg] w fun e w' => ∃ v, e = .returned v ∧ GV w w' v (rowP t) := by
  obtain ⟨w1, hw1⟩ : ∃ w1, w1 = w.alloc (.cells #[.int .i64 t.id, .string t.name, .slice t.ca t.cn t.cc, .slice t.ka t.kn t.kc, .bool t.ix] 43) := ⟨_, rfl⟩
  have b1 : BoxD w1 w.heap.size t := by rw [hw1]; exact heap_alloc_new w _
  have f1 : Fr w w1 (fun _ => False) := by rw [hw1]; exact Fr.alloc w _ _
  obtain ⟨x0, x1, x2, x3, x4⟩ := b1.cells
  have HB1 := hide b1
  have HF1 := hide f1
  have HT1 := hide (h.fr f1 (fun _ _ h => h))
  have HCN := hide h.cn
  have HKN := hide h.kn
  have hcb := h.cb
  have hkb := h.kb
  have HW := hide hw1
  clear b1 f1 hw1 h
  unfold Tb.agg
  obtain ⟨ib, hib⟩ : ∃ ib, t.ix = ib := ⟨_, rfl⟩
  have HIX := hide hib
  rw [hib] at x4 HW ⊢
  clear hib
  cases ib
  · obtain ⟨U5, hU5⟩ : ∃ U5, U5 = w1.alloc (.cells #[.int .i64 1, .int .i64 t.id, .string ⟨#[]⟩, .int .i64 2, .int .i64 0, .string t.name, .int .i64 1, .int .i64 0, .string ⟨#[]⟩, .int .i64 1, .int .i64 (t.cn : Int), .string ⟨#[]⟩] 56) := ⟨_, rfl⟩
    have HG5 : Hid (GV w1 U5 (.slice (some ⟨w1.heap.size, 0, none⟩) 4 4) [num t.id, txt t.name, num (bit t.ix), num (t.C.length : Int)]) := hide (by
      rw [hU5, HIX.out, HCN.out]
      exact GV.built (Fr.refl w1 _) [num t.id, txt t.name, num 0, num (t.cn : Int)] 4 rfl (by omega) _ rfl)
    have HU5 := hide hU5
    clear hU5
    generalize hH : [num t.id, txt t.name, num (bit t.ix), num (t.C.length : Int)] = H at HG5
    have HHD := hide hH
    have hHl : H.length = 4 := by rw [← hH]; rfl
    have HHL := hide hHl
    clear hH hHl
    obtain ⟨s5, hs5⟩ : ∃ s5, s5 = w1.heap.size := ⟨_, rfl⟩
    rw [← hs5] at HG5
    have HS5 := hide hs5
    clear hs5
    obtain ⟨y0, y1, y2, y3, y4⟩ := (HB1.out.fr HG5.out.2.1 (fun h => h)).cells
    go_enter Try.func23, Try.ntmps23
    go_wp2_with (first | (rw [← HW.out]; clear HW) | (rw [← HS5.out, ← HU5.out]; clear HU5))
    clear x0 x1 x2 x3 x4 y0 y1 y2 y3 y4
    go_loopw [4, 5] (fun v ix wr => ∃ j : Nat, j ≤ t.cn ∧ ix = .int .i64 (j : Int) ∧ GV w1 wr v (H ++ (t.C.take j).flatMap colV)) (fun _ ix _ => t.cn - (intOf ix).toNat)
    case atStart => exact ⟨0, Nat.zero_le _, rfl, by rw [List.take_zero, List.flatMap_nil, List.append_nil]; exact HG5.out⟩
    case round =>
      rename World => W
      obtain ⟨j, hj, rfl, hg⟩ := hrel
      obtain ⟨av, mv, cv, rfl⟩ := ownsRow_shape hg.1
      have HG := hide hg
      clear hg HG5
      obtain ⟨x0, x1, x2, x3, x4⟩ := (HB1.out.fr HG.out.2.1 (fun h => h)).cells
      rcases Nat.lt_or_ge j t.cn with hlt | hge
      · obtain ⟨x, hx⟩ : ∃ x, t.C[j]? = some x := ⟨_, List.getElem?_eq_getElem (by rw [HCN.out]; exact hlt)⟩
        obtain ⟨g, off, ha, _, e0, e1⟩ := (HT1.out.cols.fr HG.out.2.1 (fun _ _ h => h)) j x hx
        have hbd : (H ++ (t.C.take j).flatMap colV).length ≤ 4 + t.cn * 2 := by rw [List.length_append, colV_len, HHL.out, List.length_take]; omega
        obtain ⟨a1, c1, V1, hr1, hg1⟩ := HG.out.push [txt x.name] 1 rfl 46 #[.int .i64 2, .int .i64 0, .string x.name] rfl (by omega)
        obtain ⟨y0, y1, y2, y3, y4⟩ := (HB1.out.fr hg1.2.1 (fun h => h)).cells
        obtain ⟨g', off', ha', _, d0, d1⟩ := (HT1.out.cols.fr hg1.2.1 (fun _ _ h => h)) j x hx
        rw [ha] at ha'
        cases ha'
        rw [ha] at x2 y2
        obtain ⟨a2, c2, V2, hr2, hg2⟩ := hg1.push [num x.kind] 1 rfl 46 #[.int .i64 1, .int .i64 x.kind, .string ⟨#[]⟩] rfl (by rw [List.length_append]; simp only [List.length_cons, List.length_nil]; omega)
        have e : H ++ (t.C.take (j + 1)).flatMap colV = H ++ (t.C.take j).flatMap colV ++ [txt x.name] ++ [num x.kind] := by
          rw [List.take_add_one, hx, List.flatMap_append]
          simp [colV]
        rw [← e] at hg2
        obtain ⟨m1, hm1⟩ : ∃ m1, m1 = (H ++ (t.C.take j).flatMap colV).length + 1 := ⟨_, rfl⟩
        obtain ⟨m2, hm2⟩ : ∃ m2, m2 = (H ++ (t.C.take j).flatMap colV ++ [txt x.name]).length + 1 := ⟨_, rfl⟩
        rw [← hm1] at hr1 hr2
        rw [← hm2] at hr2 hg2
        have HG3 := hide hg2
        clear hx ha hbd hg1 hg2 e hm1 hm2 HG
        go_wp2_with (first
          | (refine wpList_plain rfl fun _ hK => wp_append_to (.tmp 29) (.tmp 37) 46 rfl _ rfl _ rfl (.slice av mv cv) (.slice (some ⟨W.heap.size, 0, none⟩) 1 1) rfl rfl _ _ hr1 (hK _ _ ?_); clear hK)
          | (refine wpList_plain rfl fun _ hK => wp_append_to (.tmp 39) (.tmp 47) 46 rfl _ rfl _ rfl (.slice a1 m1 c1) (.slice (some ⟨V1.heap.size, 0, none⟩) 1 1) rfl rfl _ _ hr2 (hK _ _ ?_); clear hK))
        go_roundw
        case rel => exact ⟨j + 1, by omega, by go_num, HG3.out⟩
        case measure => simp [intOf]; omega
      · have hcj : ¬ ((j : Int) < (t.cn : Int)) := by omega
        have hcjb : decide ((j : Int) < (t.cn : Int)) = false := by simp; omega
        have hg := HG.out
        rw [List.take_of_length_le (by rw [HCN.out]; exact hge)] at hg
        generalize hH2 : H ++ t.C.flatMap colV = H2 at hg
        have HH2 := hide hH2
        have HG2 := hide hg
        have hH2l : H2.length = 4 + t.cn * 2 := by
          rw [← hH2, List.length_append, HHL.out, colV_len, HCN.out]
        have HHL2 := hide hH2l
        clear hg hH2 HG hH2l
        go_wp2_with fail
        clear x0 x1 x2 x3 x4
        go_loopw [4, 6] (fun v ix wr => ∃ j : Nat, j ≤ t.kn ∧ ix = .int .i64 (j : Int) ∧ GV w1 wr v (H2 ++ (t.K.take j).map txt)) (fun _ ix _ => t.kn - (intOf ix).toNat)
        case atStart => exact ⟨0, Nat.zero_le _, rfl, by rw [List.take_zero, List.map_nil, List.append_nil]; exact HG2.out⟩
        case round =>
          rename World => Y
          obtain ⟨i, hi, rfl, hg⟩ := hrel
          obtain ⟨bv, nv, dv, rfl⟩ := ownsRow_shape hg.1
          have HG := hide hg
          clear hg HG2
          obtain ⟨x0, x1, x2, x3, x4⟩ := (HB1.out.fr HG.out.2.1 (fun h => h)).cells
          rcases Nat.lt_or_ge i t.kn with hlt | hge2
          · obtain ⟨x, hx⟩ : ∃ x, t.K[i]? = some x := ⟨_, List.getElem?_eq_getElem (by rw [HKN.out]; exact hlt)⟩
            obtain ⟨g, off, ha, _, e0⟩ := (HT1.out.keys.fr HG.out.2.1 (fun _ _ h => h)) i x hx
            rw [ha] at x3
            obtain ⟨a1, c1, V1, hr1, hg1⟩ := HG.out.push [txt x] 1 rfl 46 #[.int .i64 2, .int .i64 0, .string x] rfl (by
              rw [List.length_append, HHL2.out, List.length_map, List.length_take]; omega)
            have e : H2 ++ (t.K.take (i + 1)).map txt = H2 ++ (t.K.take i).map txt ++ [txt x] := by
              rw [List.take_add_one, hx, List.map_append, List.append_assoc]
              rfl
            rw [← e] at hg1
            obtain ⟨m1, hm1⟩ : ∃ m1, m1 = (H2 ++ (t.K.take i).map txt).length + 1 := ⟨_, rfl⟩
            rw [← hm1] at hr1 hg1
            have HG3 := hide hg1
            clear hx ha hg1 e hm1 HG
            go_wp2_with (refine wpList_plain rfl fun _ hK => wp_append_to (.tmp 56) (.tmp 63) 46 rfl _ rfl _ rfl (.slice bv nv dv) (.slice (some ⟨Y.heap.size, 0, none⟩) 1 1) rfl rfl _ _ hr1 (hK _ _ ?_); clear hK)
            go_roundw
            case rel => exact ⟨i + 1, by omega, by go_num, HG3.out⟩
            case measure => simp [intOf]; omega
          · have hck : ¬ ((i : Int) < (t.kn : Int)) := by omega
            have hckb : decide ((i : Int) < (t.kn : Int)) = false := by simp; omega
            have hg := HG.out
            rw [List.take_of_length_le (by rw [HKN.out]; exact hge2), ← HH2.out, ← HHD.out] at hg
            have HGE : Hid (GV w Y (.slice bv nv dv) (rowP t)) := hide ⟨hg.1, HF1.out.two hg.2.1, fun k hk => Nat.le_trans HF1.out.size (hg.2.2 k hk)⟩
            clear hg HG
            go_wp2
            go_ret
            exact ⟨_, rfl, HGE.out⟩
  · obtain ⟨U5, hU5⟩ : ∃ U5, U5 = w1.alloc (.cells #[.int .i64 1, .int .i64 t.id, .string ⟨#[]⟩, .int .i64 2, .int .i64 0, .string t.name, .int .i64 1, .int .i64 1, .string ⟨#[]⟩, .int .i64 1, .int .i64 (t.cn : Int), .string ⟨#[]⟩] 56) := ⟨_, rfl⟩
    have HG5 : Hid (GV w1 U5 (.slice (some ⟨w1.heap.size, 0, none⟩) 4 4) [num t.id, txt t.name, num (bit t.ix), num (t.C.length : Int)]) := hide (by
      rw [hU5, HIX.out, HCN.out]
      exact GV.built (Fr.refl w1 _) [num t.id, txt t.name, num 1, num (t.cn : Int)] 4 rfl (by omega) _ rfl)
    have HU5 := hide hU5
    clear hU5
    generalize hH : [num t.id, txt t.name, num (bit t.ix), num (t.C.length : Int)] = H at HG5
    have HHD := hide hH
    have hHl : H.length = 4 := by rw [← hH]; rfl
    have HHL := hide hHl
    clear hH hHl
    obtain ⟨s5, hs5⟩ : ∃ s5, s5 = w1.heap.size := ⟨_, rfl⟩
    rw [← hs5] at HG5
    have HS5 := hide hs5
    clear hs5
    obtain ⟨y0, y1, y2, y3, y4⟩ := (HB1.out.fr HG5.out.2.1 (fun h => h)).cells
    go_enter Try.func23, Try.ntmps23
    go_wp2_with (first | (rw [← HW.out]; clear HW) | (rw [← HS5.out, ← HU5.out]; clear HU5))
    clear x0 x1 x2 x3 x4 y0 y1 y2 y3 y4
    go_loopw [4, 5] (fun v ix wr => ∃ j : Nat, j ≤ t.cn ∧ ix = .int .i64 (j : Int) ∧ GV w1 wr v (H ++ (t.C.take j).flatMap colV)) (fun _ ix _ => t.cn - (intOf ix).toNat)
    case atStart => exact ⟨0, Nat.zero_le _, rfl, by rw [List.take_zero, List.flatMap_nil, List.append_nil]; exact HG5.out⟩
    case round =>
      rename World => W
      obtain ⟨j, hj, rfl, hg⟩ := hrel
      obtain ⟨av, mv, cv, rfl⟩ := ownsRow_shape hg.1
      have HG := hide hg
      clear hg HG5
      obtain ⟨x0, x1, x2, x3, x4⟩ := (HB1.out.fr HG.out.2.1 (fun h => h)).cells
      rcases Nat.lt_or_ge j t.cn with hlt | hge
      · obtain ⟨x, hx⟩ : ∃ x, t.C[j]? = some x := ⟨_, List.getElem?_eq_getElem (by rw [HCN.out]; exact hlt)⟩
        obtain ⟨g, off, ha, _, e0, e1⟩ := (HT1.out.cols.fr HG.out.2.1 (fun _ _ h => h)) j x hx
        have hbd : (H ++ (t.C.take j).flatMap colV).length ≤ 4 + t.cn * 2 := by rw [List.length_append, colV_len, HHL.out, List.length_take]; omega
        obtain ⟨a1, c1, V1, hr1, hg1⟩ := HG.out.push [txt x.name] 1 rfl 46 #[.int .i64 2, .int .i64 0, .string x.name] rfl (by omega)
        obtain ⟨y0, y1, y2, y3, y4⟩ := (HB1.out.fr hg1.2.1 (fun h => h)).cells
        obtain ⟨g', off', ha', _, d0, d1⟩ := (HT1.out.cols.fr hg1.2.1 (fun _ _ h => h)) j x hx
        rw [ha] at ha'
        cases ha'
        rw [ha] at x2 y2
        obtain ⟨a2, c2, V2, hr2, hg2⟩ := hg1.push [num x.kind] 1 rfl 46 #[.int .i64 1, .int .i64 x.kind, .string ⟨#[]⟩] rfl (by rw [List.length_append]; simp only [List.length_cons, List.length_nil]; omega)
        have e : H ++ (t.C.take (j + 1)).flatMap colV = H ++ (t.C.take j).flatMap colV ++ [txt x.name] ++ [num x.kind] := by
          rw [List.take_add_one, hx, List.flatMap_append]
          simp [colV]
        rw [← e] at hg2
        obtain ⟨m1, hm1⟩ : ∃ m1, m1 = (H ++ (t.C.take j).flatMap colV).length + 1 := ⟨_, rfl⟩
        obtain ⟨m2, hm2⟩ : ∃ m2, m2 = (H ++ (t.C.take j).flatMap colV ++ [txt x.name]).length + 1 := ⟨_, rfl⟩
        rw [← hm1] at hr1 hr2
        rw [← hm2] at hr2 hg2
        have HG3 := hide hg2
        clear hx ha hbd hg1 hg2 e hm1 hm2 HG
        go_wp2_with (first
          | (refine wpList_plain rfl fun _ hK => wp_append_to (.tmp 29) (.tmp 37) 46 rfl _ rfl _ rfl (.slice av mv cv) (.slice (some ⟨W.heap.size, 0, none⟩) 1 1) rfl rfl _ _ hr1 (hK _ _ ?_); clear hK)
          | (refine wpList_plain rfl fun _ hK => wp_append_to (.tmp 39) (.tmp 47) 46 rfl _ rfl _ rfl (.slice a1 m1 c1) (.slice (some ⟨V1.heap.size, 0, none⟩) 1 1) rfl rfl _ _ hr2 (hK _ _ ?_); clear hK))
        go_roundw
        case rel => exact ⟨j + 1, by omega, by go_num, HG3.out⟩
        case measure => simp [intOf]; omega
      · have hcj : ¬ ((j : Int) < (t.cn : Int)) := by omega
        have hcjb : decide ((j : Int) < (t.cn : Int)) = false := by simp; omega
        have hg := HG.out
        rw [List.take_of_length_le (by rw [HCN.out]; exact hge)] at hg
        generalize hH2 : H ++ t.C.flatMap colV = H2 at hg
        have HH2 := hide hH2
        have HG2 := hide hg
        have hH2l : H2.length = 4 + t.cn * 2 := by
          rw [← hH2, List.length_append, HHL.out, colV_len, HCN.out]
        have HHL2 := hide hH2l
        clear hg hH2 HG hH2l
        go_wp2_with fail
        clear x0 x1 x2 x3 x4
        go_loopw [4, 6] (fun v ix wr => ∃ j : Nat, j ≤ t.kn ∧ ix = .int .i64 (j : Int) ∧ GV w1 wr v (H2 ++ (t.K.take j).map txt)) (fun _ ix _ => t.kn - (intOf ix).toNat)
        case atStart => exact ⟨0, Nat.zero_le _, rfl, by rw [List.take_zero, List.map_nil, List.append_nil]; exact HG2.out⟩
        case round =>
          rename World => Y
          obtain ⟨i, hi, rfl, hg⟩ := hrel
          obtain ⟨bv, nv, dv, rfl⟩ := ownsRow_shape hg.1
          have HG := hide hg
          clear hg HG2
          obtain ⟨x0, x1, x2, x3, x4⟩ := (HB1.out.fr HG.out.2.1 (fun h => h)).cells
          rcases Nat.lt_or_ge i t.kn with hlt | hge2
          · obtain ⟨x, hx⟩ : ∃ x, t.K[i]? = some x := ⟨_, List.getElem?_eq_getElem (by rw [HKN.out]; exact hlt)⟩
            obtain ⟨g, off, ha, _, e0⟩ := (HT1.out.keys.fr HG.out.2.1 (fun _ _ h => h)) i x hx
            rw [ha] at x3
            obtain ⟨a1, c1, V1, hr1, hg1⟩ := HG.out.push [txt x] 1 rfl 46 #[.int .i64 2, .int .i64 0, .string x] rfl (by
              rw [List.length_append, HHL2.out, List.length_map, List.length_take]; omega)
            have e : H2 ++ (t.K.take (i + 1)).map txt = H2 ++ (t.K.take i).map txt ++ [txt x] := by
              rw [List.take_add_one, hx, List.map_append, List.append_assoc]
              rfl
            rw [← e] at hg1
            obtain ⟨m1, hm1⟩ : ∃ m1, m1 = (H2 ++ (t.K.take i).map txt).length + 1 := ⟨_, rfl⟩
            rw [← hm1] at hr1 hg1
            have HG3 := hide hg1
            clear hx ha hg1 e hm1 HG
            go_wp2_with (refine wpList_plain rfl fun _ hK => wp_append_to (.tmp 56) (.tmp 63) 46 rfl _ rfl _ rfl (.slice bv nv dv) (.slice (some ⟨Y.heap.size, 0, none⟩) 1 1) rfl rfl _ _ hr1 (hK _ _ ?_); clear hK)
            go_roundw
            case rel => exact ⟨i + 1, by omega, by go_num, HG3.out⟩
            case measure => simp [intOf]; omega
          · have hck : ¬ ((i : Int) < (t.kn : Int)) := by omega
            have hckb : decide ((i : Int) < (t.kn : Int)) = false := by simp; omega
            have hg := HG.out
            rw [List.take_of_length_le (by rw [HKN.out]; exact hge2), ← HH2.out, ← HHD.out] at hg
            have HGE : Hid (GV w Y (.slice bv nv dv) (rowP t)) := hide ⟨hg.1, HF1.out.two hg.2.1, fun k hk => Nat.le_trans HF1.out.size (hg.2.2 k hk)⟩
            clear hg HG
            go_wp2
            go_ret
            exact ⟨_, rfl, HGE.out⟩
end Go.Proofs.Ytdeopneififnnaa
