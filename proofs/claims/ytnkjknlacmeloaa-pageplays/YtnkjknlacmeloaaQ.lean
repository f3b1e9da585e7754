/- Bytes set within a record: the walk of PageSets. -/
import Derived.Test.YtnkjknlacmeloaaN
namespace Go.Proofs.Ytnkjknlacmeloaa
open Go.RowKit
set_option linter.unusedVariables false

theorem strOf_extract (l : List UInt8) (a b : Nat) : (strOf l).extract a b = strOf ((l.drop a).take (b - a)) := by
  apply ByteArray.ext
  simp [strOf]
theorem Recs.get {W V : World} {a : Option Addr} {L : List (List UInt8)} (h : Recs W a L) (hf : Fr W V (fun _ => False)) (k : Nat) (l : List UInt8) (hl : L[k]? = some l) : ∃ g off x n c, a = some ⟨g, off, none⟩ ∧ V.cell? ⟨g, off + k, none⟩ = some (.slice x n c) ∧ BI W x n l ∧ n ≤ 140737488351232 := by
  rcases h with h | ⟨g, off, rfl, hc⟩
  · subst h; simp at hl
  · obtain ⟨x, n, c, h1, h2, h3, h4⟩ := hc k l hl
    exact ⟨g, off, x, n, c, rfl, by rw [World.cell?_of_block (w := W) (hf.block g (World.block_lt_of_cell? W _ h1) (fun h => h))]; exact h1, h2, h3⟩
theorem Recs.fr {W V : World} {a : Option Addr} {L : List (List UInt8)} (h : Recs W a L) (hf : Fr W V (fun _ => False)) : Recs V a L := by
  rcases h with h | ⟨g, off, rfl, hc⟩
  · exact .inl h
  · refine .inr ⟨g, off, rfl, fun j l hl => ?_⟩
    obtain ⟨x, n, c, h1, h2, h3, h4⟩ := hc j l hl
    exact ⟨x, n, c, by rw [World.cell?_of_block (w := W) (hf.block g (World.block_lt_of_cell? W _ h1) (fun h => h))]; exact h1, h2.fr hf (fun _ _ _ _ h => h), h3, h4⟩
theorem OwnS.thawed {w : World} {g n c : Nat} {L : List (List UInt8)} (h : OwnS w (.slice (some ⟨g, 0, none⟩) n c) L) (j : Nat) : w.frozen? ⟨g, j, none⟩ = false := by
  rcases h.2 with ⟨h1, _⟩ | ⟨g', cap, cur, hv, _, hg, _⟩
  · cases h1
  · simp only [Value.slice.injEq, Option.some.injEq, Addr.mk.injEq, and_true] at hv
    obtain ⟨rfl, _⟩ := hv
    simp [World.frozen?, hg]
theorem OwnS.put {w : World} {g n c : Nat} {L : List (List UInt8)} (h : OwnS w (.slice (some ⟨g, 0, none⟩) n c) L) (j : Nat) (x : List UInt8) : OwnS (w.setCell ⟨g, j, none⟩ (.string (strOf x))) (.slice (some ⟨g, 0, none⟩) n c) (L.set j x) := by
  unfold OwnS at *
  rw [List.length_set]
  refine ⟨by simp [strs], ?_⟩
  rcases h.2 with ⟨h1, _⟩ | ⟨g', cap, cur, hv, h0, hg, h2, h3, h4, h5⟩
  · cases h1
  · refine .inr ⟨g', cap, cur.setIfInBounds j (.string (strOf x)), hv, h0, ?_, h2, h3, by simpa using h4, ?_⟩
    · simp only [Value.slice.injEq, Option.some.injEq, Addr.mk.injEq, and_true] at hv
      obtain ⟨rfl, _⟩ := hv
      exact heap_setCell_here _ _ _ _ _ _ _ hg
    · rw [Array.toList_setIfInBounds, List.take_set, h5]
      simp [strs, List.map_set]
theorem over_parts (r l : List UInt8) (x n : Nat) (hn : l.length = n) : r.take x ++ l ++ r.drop (x + n) = over r x l := by subst hn; rfl

set_option maxRecDepth 100000 in
set_option maxHeartbeats 4000000 in
theorem sets_walk (a : Option Addr) (c : Nat) (L : List (List UInt8)) (x0 y0 : Int) (a2 : Option Addr) (n2 c2 : Nat) (l2 : List UInt8) (w : World) (hv : Recs w a L) (hL : L.length ≤ 140737488351232) (hi : (-9223372036854775808 ≤ x0 ∧ x0 ≤ 9223372036854775807) ∧ -9223372036854775808 ≤ y0 ∧ y0 ≤ 9223372036854775807) (hb2 : BI w a2 n2 l2) (hn2 : n2 ≤ 140737488351232) :
    Calls Try.prog 8 #[.slice a L.length c, .agg #[.int .i64 x0, .int .i64 y0], .slice a2 n2 c2] w fun e w' => e = .returned (.bool true) ∧ Fr w w' (fun _ => False) := by
  obtain ⟨⟨hx1, hx2⟩, hy1, hy2⟩ := hi
  have FA0 := Fr.alloc w (.cells #[.int .i64 x0, .int .i64 y0] 54) (fun _ => False)
  have HFA0 := hide FA0
  have HV := hide (hv.fr FA0)
  have HB2 := hide (hb2.fr FA0 (fun _ _ _ _ h => h))
  have HL2 := hide hb2.1
  have HTA := hide (two_of (heap_alloc_new w (.cells #[.int .i64 x0, .int .i64 y0] 54)))
  have sA0 : (w.alloc (.cells #[.int .i64 x0, .int .i64 y0] 54)).heap.size = w.heap.size + 1 := by simp
  clear hv hb2 FA0
  go_enter Try.func8, Try.ntmps8
  go_wp2_with fail
  obtain ⟨W0, hW0⟩ : ∃ W0, W0 = w.alloc (.cells #[.int .i64 x0, .int .i64 y0] 54) := ⟨_, rfl⟩
  obtain ⟨bA, hbA⟩ : ∃ bA, bA = w.heap.size := ⟨_, rfl⟩
  rw [← hW0] at HFA0 HV HB2 HTA sA0 ⊢
  rw [← hbA] at HTA sA0 ⊢
  have hbA0 : bA < W0.heap.size := by omega
  clear hW0 hbA sA0
  refine (awake_any W0).mono ?_
  rintro e w1 ⟨rfl, F1⟩
  have HF1 := hide F1
  clear F1
  go_wp2_with fail
  refine (new_any w1).mono ?_
  rintro e V2 ⟨rfl, hV2⟩
  have F2 : Fr w1 V2 (fun _ => False) := by rw [hV2]; exact Fr.alloc _ _ _
  have s2 : V2.heap.size = w1.heap.size + 1 := by rw [hV2]; simp
  have hp2 : PageIn V2 w1.heap.size (fun k => k = w1.heap.size) [] 0 := by rw [hV2]; exact newIn w1
  obtain ⟨bp, hbp⟩ : ∃ bp, bp = w1.heap.size := ⟨_, rfl⟩
  rw [← hbp] at hp2 ⊢
  have hbw : W0.heap.size ≤ bp := by have := HF1.out.size; omega
  have hb2 : bp < V2.heap.size := by omega
  have HF2 := hide ((HF1.out.trans F2).mono (Y := fun _ => False) (by simp))
  have HP2 := hide hp2
  clear hV2 F2 s2 hp2 hbp HF1
  go_wp2_with fail
  go_loopw [8, 26] (fun x i wr => ∃ (k : Nat) (R : List (List UInt8)) (F : Nat → Prop), k ≤ L.length ∧ i = .int .i64 k ∧ OwnS wr x R ∧ PageIn wr bp F R 0 ∧ (∀ q, F q → W0.heap.size ≤ q ∧ q < wr.heap.size) ∧ (∀ q, x.ownBlock = some q → W0.heap.size ≤ q ∧ ¬ F q) ∧ Fr W0 wr (fun _ => False)) (fun _ i _ => L.length - (intOf i).toNat)
  case atStart => exact ⟨0, [], fun k => k = bp, by omega, rfl, OwnS.nil _, HP2.out, fun q hq => ⟨by omega, by omega⟩, by simp [Value.ownBlock], HF2.out⟩
  case round =>
    rename World => W
    obtain ⟨k, R, F, hk, rfl, ho, hp, hF, hX, hf⟩ := hrel
    have HO := hide ho
    have HP := hide hp
    have HFF := hide hF
    have HX := hide hX
    have HF := hide hf
    have hcnt := hp.fits.count
    clear ho hp hF hX hf HP2 HF2
    by_cases hlt : k < L.length
    · obtain ⟨o, hlo⟩ : ∃ o, L[k]? = some o := ⟨_, List.getElem?_eq_getElem hlt⟩
      obtain ⟨g, off, oa, on, oc, rfl, hcl, hbo, hon⟩ := HV.out.get HF.out k o hlo
      have HBO := hide hbo
      have hWw := HF.out.size
      clear hlo hbo
      go_wp2_with fail
      by_cases h200 : on ≤ 200
      · by_cases hful : usedP R + (1 + on) ≤ 256
        · refine (addIn HP.out oa on oc o (HBO.out.fr HF.out (fun _ _ _ _ h => h)) h200 hful).mono ?_
          rintro e W2 ⟨rfl, hp3, f3⟩
          have s3 := f3.size
          have F3 : Fr W0 W2 (fun _ => False) := (HF.out.trans f3).mono (fun q hq h => by rcases h with h | h; exact h; (have := HFF.out q h; omega))
          have HP3 := hide hp3.low
          have HF3 := hide F3
          have HO3 := hide (HO.out.fr f3 (fun q hq h => (HX.out q hq).2 h))
          have hcv := run_string W2 oa on oc o (HBO.out.fr F3 (fun _ _ _ _ h => h)).bin
          obtain ⟨xa, xc, hxe, _⟩ := HO3.out.shape
          subst hxe
          clear hp3 f3 F3
          go_wp2_with (refine wpList_pushS rfl (.tmp 38) (.tmp 41) rfl (.slice xa R.length xc) R rfl HO3.out o _ rfl rfl (by omega) ?_; intro v4 W4 ho4 hf4 hr4; have HO4 := hide ho4; have HF4 := hide hf4; have HR4 := hide hr4; clear ho4 hf4 hr4)
          go_roundw
          case rel =>
            have s4 := HF4.out.size
            have hxlt : ∀ q, (Value.slice xa R.length xc).ownBlock = some q → q < W.heap.size := fun q hq => (HO.out.lt q hq).2
            refine ⟨k + 1, R ++ [o], fun q => (F q ∨ W.heap.size ≤ q) ∧ q < W2.heap.size, by omega, by go_num, HO4.out, HP3.out.fr HF4.out ?_, ?_, ?_, ?_⟩
            · rintro q ⟨h1 | h1, h2⟩ h3 h4
              · exact (HX.out q h4).2 h1
              · have := hxlt q h4; omega
            · rintro q ⟨h1 | h1, h2⟩
              · have := HFF.out q h1; exact ⟨this.1, by omega⟩
              · exact ⟨by omega, by omega⟩
            · intro q hq
              rcases HR4.out with h1 | ⟨q', h1, h2⟩
              · rw [h1] at hq
                obtain ⟨h3, h4⟩ := HX.out q hq
                have := hxlt q hq
                exact ⟨h3, by rintro ⟨h5 | h5, h6⟩; exact h4 h5; omega⟩
              · rw [h1] at hq
                injection hq with hq
                exact ⟨by omega, by rintro ⟨_, h6⟩; omega⟩
            · exact (HF3.out.trans HF4.out).mono (fun q hq h => by rcases h with h | h; exact h; (have := (HX.out q h).1; omega))
          case measure => simp [intOf]; omega
        · refine (addFull HP.out oa on oc h200 (by omega)).mono ?_
          rintro e W2 ⟨rfl, hw⟩
          obtain rfl := hw.symm
          clear hw
          go_wp2
          go_roundw
          case rel => exact ⟨k + 1, R, F, by omega, by go_num, HO.out, HP.out, HFF.out, HX.out, HF.out⟩
          case measure => simp [intOf]; omega
      · refine (add_long W bp oa on oc (by omega) (by omega)).mono ?_
        rintro e W2 ⟨rfl, hw⟩
        obtain rfl := hw.symm
        clear hw
        go_wp2
        go_roundw
        case rel => exact ⟨k + 1, R, F, by omega, by go_num, HO.out, HP.out, HFF.out, HX.out, HF.out⟩
        case measure => simp [intOf]; omega
    · obtain ⟨xa, xc, hxe, hxc⟩ := HO.out.shape
      subst hxe
      clear HV
      go_wp2_with fail
      refine (setMarkIn HP.out (-5) (by omega)).mono ?_
      rintro e W5 ⟨rfl, hp5, f5⟩
      have HP5 := hide hp5
      have HO5 := hide (HO.out.fr f5 (fun q hq h => (HX.out q hq).2 h))
      have F5 : Fr W0 W5 (fun _ => False) := (HF.out.trans f5).mono (fun q hq h => by rcases h with h | h; exact h; (have := HFF.out q h; omega))
      have HF5 := hide F5
      have HT5 := hide (HTA.out.fr F5 (fun h => h))
      have hFF : ∀ q, F q → W0.heap.size ≤ q := fun q hq => (HFF.out q hq).1
      have HFF5 := hide hFF
      have t0 := HT5.out.1
      have t1 := HT5.out.2.1
      clear hp5 f5 F5 HP HO HF HFF hFF
      by_cases hin : decide (0 ≤ x0 ∧ x0 < R.length) = true
      · have hin2 : 0 ≤ x0 ∧ x0 < R.length := by simpa using hin
        obtain ⟨kk, rfl⟩ := Int.eq_ofNat_of_zero_le hin2.1
        have hkl : kk < R.length := by omega
        obtain ⟨r, hr⟩ : ∃ r, R[kk]? = some r := ⟨_, List.getElem?_eq_getElem hkl⟩
        have HR := hide hr
        have hrl : r.length ≤ 200 := HP5.out.fits.each r (List.mem_of_getElem? hr)
        have hrs := size_strOf r
        clear hr hin hin2
        have hn0 : ¬ (kk : Int) < 0 := by omega
        have hn1 : ¬ (R.length : Int) ≤ (kk : Int) := by omega
        by_cases hout : y0 < 0 ∨ (r.length : Int) - n2 < y0
        · have HOUT := hide hout
          obtain ⟨gk, rfl, hck⟩ := HO5.out.at kk r HR.out
          clear hout
          go_wp2_with fail
          refine (setOut HP5.out kk r HR.out y0 a2 n2 c2 (by omega) HOUT.out).mono ?_
          rintro e W6 ⟨rfl, hw⟩
          obtain rfl := hw.symm
          clear hw
          rcases HOUT.out with h | h
          · go_wp2
            go_ret
            exact ⟨rfl, (HFA0.out.trans HF5.out).mono (by simp)⟩
          · by_cases h0 : y0 < 0
            · go_wp2
              go_ret
              exact ⟨rfl, (HFA0.out.trans HF5.out).mono (by simp)⟩
            · by_cases h3 : (r.length : Int) < y0
              · go_wp2
                go_ret
                exact ⟨rfl, (HFA0.out.trans HF5.out).mono (by simp)⟩
              · have h4 : (r.length : Int) - y0 < n2 := by omega
                go_wp2
                go_ret
                exact ⟨rfl, (HFA0.out.trans HF5.out).mono (by simp)⟩
        · have h0 : ¬ y0 < 0 := fun h => hout (.inl h)
          have h1 : ¬ (r.length : Int) - n2 < y0 := fun h => hout (.inr h)
          obtain ⟨xx, rfl⟩ := Int.eq_ofNat_of_zero_le (by omega : 0 ≤ y0)
          have hxx : xx + n2 ≤ r.length := by omega
          have h3 : ¬ (r.length : Int) < (xx : Int) := by omega
          have h4 : ¬ (r.length : Int) - (xx : Int) < n2 := by omega
          clear hout
          go_wp2_with fail
          refine (setYes HP5.out kk r HR.out xx a2 n2 c2 l2 (HB2.out.fr HF5.out (fun _ _ _ _ h => h)) hxx).mono ?_
          rintro e W6 ⟨rfl, hp6, f6⟩
          have HP6 := hide hp6
          have HO6 := hide (HO5.out.fr f6 (fun q hq h => (HX.out q hq).2 h))
          have F6 : Fr W0 W6 (fun _ => False) := (HF5.out.trans f6).mono (fun q hq h => by rcases h with h | h; exact h; (have := HFF5.out q h; omega))
          have HF6 := hide F6
          have HT6 := hide (HTA.out.fr F6 (fun h => h))
          have hgl := (HO5.out.lt · ·)
          obtain ⟨gk, hgke, hck⟩ := HO6.out.at kk r HR.out
          subst hgke
          have hzk := HO6.out.thawed kk
          have hgkw : W0.heap.size ≤ gk := (HX.out gk rfl).1
          have hgkF : ¬ F gk := (HX.out gk rfl).2
          have t0 := HT6.out.1
          have t1 := HT6.out.2.1
          have HB6 := hide (HB2.out.fr F6 (fun _ _ _ _ h => h))
          clear hp6 f6 F6 HP5 HO5 HF5 HT5 hgl
          go_wp2_with fail
          refine wp_region_K (fun _ => true) (fun V => V.cell? ⟨bA, 0, none⟩ = some (.int .i64 (kk : Int)) ∧ V.cell? ⟨bA, 1, none⟩ = some (.int .i64 (xx : Int)) ∧ BI V a2 n2 l2) (by kernel_rfl) ?_
          have hl2 := HL2.out
          have hS : W6.drew.cell? ⟨bA, 0, none⟩ = some (.int .i64 (kk : Int)) ∧ W6.drew.cell? ⟨bA, 1, none⟩ = some (.int .i64 (xx : Int)) ∧ BI W6.drew a2 n2 l2 := ⟨by simpa using t0, by simpa using t1, HB6.out.fr (Fr.drew _ (fun _ => False)) (fun _ _ _ _ h => h)⟩
          refine wpAnyK_takeTo 0 (some 92) (.slice (some ⟨gk, 0, none⟩) R.length xc) [] rfl rfl (by kernel_rfl) (by kernel_rfl) (by kernel_rfl) (by kernel_rfl) (fun _ _ _ h => h) hS (Or.inl ⟨rfl, fun w1 hw1 => by go_simp⟩) ?_
          simp only [Act.put, List.setIfInBounds_toArray, List.set_cons_zero, List.set_cons_succ]
          refine wpAnyK_takeTo 1 (some 93) (.pointer (some ⟨bA, 0, none⟩)) [] rfl rfl (by kernel_rfl) (by kernel_rfl) (by kernel_rfl) (by kernel_rfl) (fun _ _ _ h => h) hS (Or.inl ⟨rfl, fun w1 hw1 => by go_simp⟩) ?_
          simp only [Act.put, List.setIfInBounds_toArray, List.set_cons_zero, List.set_cons_succ]
          refine wpAnyK_takeTo 2 (some 94) (.int .i64 (kk : Int)) [] rfl rfl (by kernel_rfl) (by kernel_rfl) (by kernel_rfl) (by kernel_rfl) (fun _ _ _ h => h) hS (Or.inl ⟨rfl, fun w1 hw1 => by have g0 := hw1.1; go_simp⟩) ?_
          simp only [Act.put, List.setIfInBounds_toArray, List.set_cons_zero, List.set_cons_succ]
          refine wpAnyK_takeTo 3 (some 95) (.string (strOf r)) [] rfl rfl (by kernel_rfl) (by kernel_rfl) (by kernel_rfl) (by kernel_rfl) (fun _ _ _ h => h) hS (Or.inl ⟨rfl, fun w1 hw1 => by go_simp⟩) ?_
          simp only [Act.put, List.setIfInBounds_toArray, List.set_cons_zero, List.set_cons_succ]
          refine wpAnyK_takeTo 4 (some 96) (.pointer (some ⟨bA, 1, none⟩)) [] rfl rfl (by kernel_rfl) (by kernel_rfl) (by kernel_rfl) (by kernel_rfl) (fun _ _ _ h => h) hS (Or.inl ⟨rfl, fun w1 hw1 => by go_simp⟩) ?_
          simp only [Act.put, List.setIfInBounds_toArray, List.set_cons_zero, List.set_cons_succ]
          refine wpAnyK_takeTo 5 (some 97) (.int .i64 (xx : Int)) [] rfl rfl (by kernel_rfl) (by kernel_rfl) (by kernel_rfl) (by kernel_rfl) (fun _ _ _ h => h) hS (Or.inl ⟨rfl, fun w1 hw1 => by have g0 := hw1.2.1; go_simp⟩) ?_
          simp only [Act.put, List.setIfInBounds_toArray, List.set_cons_zero, List.set_cons_succ]
          refine wpAnyK_takeTo 6 (some 98) (.string (strOf (r.take xx))) [] rfl rfl (by kernel_rfl) (by kernel_rfl) (by kernel_rfl) (by kernel_rfl) (fun _ _ _ h => h) hS (Or.inl ⟨rfl, fun w1 hw1 => by go_simp; rw [strOf_extract]; simp⟩) ?_
          simp only [Act.put, List.setIfInBounds_toArray, List.set_cons_zero, List.set_cons_succ]
          refine wpAnyK_takeTo 7 (some 99) (.slice a2 n2 c2) [] rfl rfl (by kernel_rfl) (by kernel_rfl) (by kernel_rfl) (by kernel_rfl) (fun _ _ _ h => h) hS (Or.inl ⟨rfl, fun w1 hw1 => by go_simp⟩) ?_
          simp only [Act.put, List.setIfInBounds_toArray, List.set_cons_zero, List.set_cons_succ]
          refine wpAnyK_takeTo 8 (some 100) (.string (strOf l2)) [] rfl rfl (by kernel_rfl) (by kernel_rfl) (by kernel_rfl) (by kernel_rfl) (fun _ _ _ h => h) hS (Or.inl ⟨rfl, fun w1 hw1 => exec_string (.tmp 99) rfl rfl hw1.2.2⟩) ?_
          simp only [Act.put, List.setIfInBounds_toArray, List.set_cons_zero, List.set_cons_succ]
          refine wpAnyK_takeTo 9 (some 101) (.string (strOf (r.take xx ++ l2))) [] rfl rfl (by kernel_rfl) (by kernel_rfl) (by kernel_rfl) (by kernel_rfl) (fun _ _ _ h => h) hS (Or.inl ⟨rfl, fun w1 hw1 => exec_concat 9 9 (.tmp 98) (.tmp 100) rfl rfl rfl (by rw [List.length_take, hl2]; omega)⟩) ?_
          simp only [Act.put, List.setIfInBounds_toArray, List.set_cons_zero, List.set_cons_succ]
          refine wpAnyK_takeTo 10 (some 102) (.string (strOf r)) [] rfl rfl (by kernel_rfl) (by kernel_rfl) (by kernel_rfl) (by kernel_rfl) (fun _ _ _ h => h) hS (Or.inl ⟨rfl, fun w1 hw1 => by go_simp⟩) ?_
          simp only [Act.put, List.setIfInBounds_toArray, List.set_cons_zero, List.set_cons_succ]
          refine wpAnyK_takeTo 11 (some 103) (.pointer (some ⟨bA, 1, none⟩)) [] rfl rfl (by kernel_rfl) (by kernel_rfl) (by kernel_rfl) (by kernel_rfl) (fun _ _ _ h => h) hS (Or.inl ⟨rfl, fun w1 hw1 => by go_simp⟩) ?_
          simp only [Act.put, List.setIfInBounds_toArray, List.set_cons_zero, List.set_cons_succ]
          refine wpAnyK_takeTo 12 (some 104) (.int .i64 (xx : Int)) [] rfl rfl (by kernel_rfl) (by kernel_rfl) (by kernel_rfl) (by kernel_rfl) (fun _ _ _ h => h) hS (Or.inl ⟨rfl, fun w1 hw1 => by have g0 := hw1.2.1; go_simp⟩) ?_
          simp only [Act.put, List.setIfInBounds_toArray, List.set_cons_zero, List.set_cons_succ]
          refine wpAnyK_takeTo 13 (some 105) (.slice a2 n2 c2) [] rfl rfl (by kernel_rfl) (by kernel_rfl) (by kernel_rfl) (by kernel_rfl) (fun _ _ _ h => h) hS (Or.inl ⟨rfl, fun w1 hw1 => by go_simp⟩) ?_
          simp only [Act.put, List.setIfInBounds_toArray, List.set_cons_zero, List.set_cons_succ]
          refine wpAnyK_takeTo 14 (some 106) (.int .i64 (n2 : Int)) [] rfl rfl (by kernel_rfl) (by kernel_rfl) (by kernel_rfl) (by kernel_rfl) (fun _ _ _ h => h) hS (Or.inl ⟨rfl, fun w1 hw1 => by go_simp⟩) ?_
          simp only [Act.put, List.setIfInBounds_toArray, List.set_cons_zero, List.set_cons_succ]
          refine wpAnyK_takeTo 15 (some 107) (.int .i64 ((xx : Int) + n2)) [] rfl rfl (by kernel_rfl) (by kernel_rfl) (by kernel_rfl) (by kernel_rfl) (fun _ _ _ h => h) hS (Or.inl ⟨rfl, fun w1 hw1 => by go_simp; rw [IntKind.wrap_i64]; omega⟩) ?_
          simp only [Act.put, List.setIfInBounds_toArray, List.set_cons_zero, List.set_cons_succ]
          refine wpAnyK_takeTo 16 (some 108) (.string (strOf (r.drop (xx + n2)))) [] rfl rfl (by kernel_rfl) (by kernel_rfl) (by kernel_rfl) (by kernel_rfl) (fun _ _ _ h => h) hS (Or.inl ⟨rfl, fun w1 hw1 => by go_simp; rw [strOf_extract, List.take_of_length_le (by rw [List.length_drop]; omega), if_pos (by omega), show ((xx : Int) + n2).toNat = xx + n2 by omega]⟩) ?_
          simp only [Act.put, List.setIfInBounds_toArray, List.set_cons_zero, List.set_cons_succ]
          refine wpAnyK_takeTo 17 (some 109) (.string (strOf (over r xx l2))) [] rfl rfl (by kernel_rfl) (by kernel_rfl) (by kernel_rfl) (by kernel_rfl) (fun _ _ _ h => h) hS (Or.inl ⟨rfl, fun w1 hw1 => by rw [← over_parts r l2 xx n2 hl2]; exact exec_concat 9 9 (.tmp 101) (.tmp 108) rfl rfl rfl (by rw [List.length_append, List.length_take, List.length_drop, hl2]; omega)⟩) ?_
          simp only [Act.put, List.setIfInBounds_toArray, List.set_cons_zero, List.set_cons_succ]
          refine wpAnyK_takeTo 18 (some 110) (.pointer (some ⟨gk, kk, none⟩)) [] rfl rfl (by kernel_rfl) (by kernel_rfl) (by kernel_rfl) (by kernel_rfl) (fun _ _ _ h => h) hS (Or.inl ⟨rfl, fun w1 hw1 => by go_simp⟩) ?_
          simp only [Act.put, List.setIfInBounds_toArray, List.set_cons_zero, List.set_cons_succ]
          refine wpAnyK_one (i := 19) (by kernel_rfl) rfl rfl ?_
          go_simp
          have FS : Fr W0 (W6.setCell ⟨gk, kk, none⟩ (.string (strOf (over r xx l2)))).drew (fun _ => False) := ((HF6.out.trans (Fr.setCell W6 ⟨gk, kk, none⟩ (.string (strOf (over r xx l2))))).trans (Fr.drew _ (fun _ => False))).mono (fun q hq h => by rcases h with (h | h) | h; exact h; (have h : q = gk := h; omega); exact h)
          refine ⟨HB2.out.fr FS (fun _ _ _ _ h => h), ?_⟩
          refine wpAnyK_done (by kernel_rfl) ?_ _
          have HO7 := hide ((HO6.out.put kk (over r xx l2)).fr (Fr.drew _ (fun _ => False)) (fun _ _ h => h))
          have HP7 := hide ((HP6.out.fr (Fr.setCell W6 ⟨gk, kk, none⟩ (.string (strOf (over r xx l2)))) (fun q h1 _ h2 => by have h2 : q = gk := h2; rw [h2] at h1; exact hgkF h1)).fr (Fr.drew _ (fun _ => False)) (fun _ _ _ h => h))
          have HF7 := hide FS
          obtain ⟨V7, hV7⟩ : ∃ V7, V7 = (W6.setCell ⟨gk, kk, none⟩ (.string (strOf (over r xx l2)))).drew := ⟨_, rfl⟩
          rw [← hV7] at HO7 HP7 HF7 ⊢
          obtain ⟨R', hR'⟩ : ∃ R', R' = R.set kk (over r xx l2) := ⟨_, rfl⟩
          rw [← hR'] at HO7 HP7
          have hRl : R'.length = R.length := by rw [hR', List.length_set]
          have HRl := hide hRl
          clear FS hV7 hR' hRl HO6 HP6 HF6 HT6 HB6 hS t0 t1 hck hzk HX HFF5
          go_wp2_with fail
          refine (bytesIn HP7.out).mono ?_
          rintro e V8 ⟨rfl, hg8, F8⟩
          have hb8 := BI.block hg8 256 (length_bytesP HP7.out.fits (-5))
          have HB8 := hide hb8
          have HO8 := hide (HO7.out.fr F8 (fun _ _ h => h))
          have HF8 := hide ((HF7.out.trans F8).mono (Y := fun _ => False) (by simp))
          have HFIT := hide HP7.out.fits
          unfold recV
          clear hg8 F8 hb8 HO7 HF7 HP7
          go_wp2_with fail
          refine (open_any V8 _ 256 256 _ HB8.out (by omega) (by omega)).mono ?_
          rintro e V9 ⟨ho9, F9⟩
          rw [open_bytes HFIT.out (-5) (by omega)] at ho9
          obtain ⟨b9, rfl, hp9⟩ := ho9
          have HP9 := hide hp9
          have HO9 := hide (HO8.out.fr F9 (fun _ _ h => h))
          have HF9 := hide ((HF8.out.trans F9).mono (Y := fun _ => False) (by simp))
          clear F9 hp9 HO8 HF8 HB8
          go_wp2_with (first | (go_at_call 19; refine (markIn HP9.out).mono ?_; rintro e w' ⟨rfl, hw⟩; obtain rfl := hw.symm; clear hw) | (go_at_call 14; refine (countIn HP9.out).mono ?_; rintro e w' ⟨rfl, hw⟩; obtain rfl := hw.symm; clear hw; rw [HRl.out]))
          go_loopw [141] (fun i wr => ∃ k2 : Nat, k2 ≤ R.length ∧ i = .int .i64 k2 ∧ Fr V9 wr (fun _ => False)) (fun i _ => R.length - (intOf i).toNat)
          case atStart => exact ⟨0, by omega, rfl, Fr.refl _ _⟩
          case round =>
            rename World => W8
            obtain ⟨k2, hk2, rfl, hf8⟩ := hrel
            have HF10 := hide hf8
            clear hf8
            by_cases hlt2 : k2 < R.length
            · obtain ⟨r9, hr9⟩ : ∃ r9, R'[k2]? = some r9 := ⟨_, List.getElem?_eq_getElem (by rw [HRl.out]; exact hlt2)⟩
              obtain ⟨g9, hge, hck⟩ := (HO9.out.fr HF10.out (fun _ _ h => h)).at k2 r9 hr9
              obtain rfl : gk = g9 := by simpa using hge
              have HRR := hide hr9
              have hrl9 := HFIT.out.each r9 (List.mem_of_getElem? hr9)
              clear hr9 hge
              go_wp2_with fail
              refine (getYes (HP9.out.keep HF10.out) k2 k2 r9 rfl HRR.out).mono ?_
              rintro e W9 ⟨rfl, hg9, F9, hs9⟩
              have hcv9 := run_string W9 (some ⟨W8.heap.size, 0, none⟩) r9.length r9.length r9 (BI.recd hg9).bin
              have HF11 := hide ((HF10.out.trans F9).mono (Y := fun _ => False) (by simp))
              unfold recV
              clear hg9 F9 hs9
              go_wp2
              go_roundw
              case rel => exact ⟨k2 + 1, by omega, by go_num, HF11.out⟩
              case measure => simp [intOf]; omega
            · go_wp2
              go_ret
              exact ⟨rfl, ((HFA0.out.trans HF9.out).trans HF10.out).mono (by simp)⟩
      · have hin2 : decide (0 ≤ x0 ∧ x0 < R.length) = false := by simpa using hin
        have HIN := hide hin2
        have hor : x0 < 0 ∨ (R.length : Int) ≤ x0 := by simp at hin2; omega
        clear hin hin2
        go_wp2_with fail
        refine (setNo HP5.out x0 HIN.out y0 (.slice a2 n2 c2)).mono ?_
        rintro e W6 ⟨rfl, hw⟩
        obtain rfl := hw.symm
        clear hw
        rcases hor with h | h
        · go_wp2
          go_ret
          exact ⟨rfl, (HFA0.out.trans HF5.out).mono (by simp)⟩
        · by_cases h0 : x0 < 0
          · go_wp2
            go_ret
            exact ⟨rfl, (HFA0.out.trans HF5.out).mono (by simp)⟩
          · go_wp2
            go_ret
            exact ⟨rfl, (HFA0.out.trans HF5.out).mono (by simp)⟩
end Go.Proofs.Ytnkjknlacmeloaa
