/- Words with blanks between: the law's walk. -/
import Derived.Test.YtackfnojafinpaaDoorX
namespace Go.Proofs.YtackfnojafinpaaDoor
open Go.RowKit
set_option linter.unusedVariables false

/-- The two texts so far. -/
structure Two2 (k : Nat) (sa sb : List UInt8) (X Y : List Tok) : Prop where
  a : Ended sa X
  b : Ended sb Y
  al : Alike X Y
  len : X.length = k
  la : sa.length ≤ 4104 * k
  lb : sb.length ≤ 4104 * k
set_option maxRecDepth 100000 in
set_option maxHeartbeats 4000000 in
theorem blanks_walk (a1 a2 : Option Addr) (c1 c2 : Nat) (Ws : List ByteArray) (Bs : List Int) (w : World) (he : Errs w) (h1 : Strs w a1 Ws) (h2 : Nums w a2 Bs) (hn : Ws.length ≤ 8796093022208) (hn2 : Bs.length ≤ 140737488355328) (hws : ∀ x ∈ Ws, x.size ≤ 140737488351232) :
    Calls Tryd.prog 6 #[.slice a1 Ws.length c1, .slice a2 Bs.length c2] w fun e w' => e = .returned (.bool true) ∧ Fr w w' (fun _ => False) := by
  have haw := awake_any w he
  have HE := hide he
  have H1 := hide h1
  have H2 := hide h2
  have HWS := hide hws
  clear he h1 h2 hws
  go_enter Tryd.func6, Tryd.ntmps6
  go_wp2_with fail
  refine haw.mono ?_
  rintro e W0 ⟨rfl, hf⟩
  have HF0 := hide hf
  have HE0 := hide (HE.out.fr hf (fun h => h))
  clear hf haw
  go_wp2
  go_loopw [5, 6, 22] (fun x y i wr => ∃ (k : Nat) (sa sb : List UInt8) (X Y : List Tok), x = .string (strOf sa) ∧ y = .string (strOf sb) ∧ i = .int .i64 k ∧ k ≤ Ws.length ∧ Two2 k sa sb X Y ∧ Fr w wr (fun _ => False)) (fun _ _ i _ => Ws.length - (intOf i).toNat)
  case atStart => exact ⟨0, [], [], [], [], rfl, rfl, rfl, by omega, ⟨.inl ⟨rfl, rfl⟩, .inl ⟨rfl, rfl⟩, Alike.nil, rfl, by simp, by simp⟩, HF0.out⟩
  case round =>
    rename World => W
    obtain ⟨k, sa, sb, X, Y, rfl, rfl, rfl, hk, hto, hfr⟩ := hrel
    have HTO := hide hto
    have HFR := hide hfr
    have HEW := hide (HE.out.fr hfr (fun h => h))
    have hza := strOf_size sa
    have hzb := strOf_size sb
    have hla := hto.la
    have hlb := hto.lb
    have hsa : (strOf sa).size ≤ 36099165763141632 := by omega
    have hsb : (strOf sb).size ≤ 36099165763141632 := by omega
    clear hto hza hzb
    by_cases hlt : k < Ws.length
    · obtain ⟨x, hx⟩ : ∃ x, Ws[k]? = some x := ⟨_, List.getElem?_eq_getElem hlt⟩
      obtain ⟨g, off, rfl, x0⟩ := H1.out.get hfr k x hx
      have hxs := HWS.out x (List.mem_of_getElem? hx)
      clear hx hfr
      go_wp2_with fail
      refine (tokens_any x W (by omega) HEW.out).mono ?_
      rintro e V ⟨h, hf⟩
      have HFV := hide ((HFR.out.trans hf).mono (Y := fun _ => False) (by simp))
      clear hf
      rcases h with ⟨T, v, hx2, hlx, rfl, hox, hlenx⟩ | ⟨_, c, p, hc0, rfl⟩
      · obtain ⟨ax, cx, rfl, hcx, _⟩ := hox.shape
        by_cases hT1 : T.length = 1
        · obtain ⟨t, rfl⟩ := List.length_eq_one_iff.1 hT1
          obtain ⟨d1, hd1⟩ := HTO.out.a.word hlx
          obtain ⟨d2, hd2⟩ := HTO.out.b.word hlx
          have HD1 := hide hd1
          have HD2 := hide hd2
          have HXB := hide (show strOf sb ++ x = strOf (sb ++ x.data.toList) by rw [← strOf_append]; rfl)
          have HXA := hide (show strOf sa ++ (x ++ ⟨#[32]⟩) = strOf (sa ++ x.data.toList ++ [32]) by rw [← strOf_append, ← strOf_append, ByteArray.append_assoc]; rfl)
          simp only [List.length_cons, List.length_nil, Nat.zero_add] at *
          clear hd1 hd2 hlx hox hT1
          by_cases hkb : k < Bs.length
          · obtain ⟨bk, hbk⟩ : ∃ z, Bs[k]? = some z := ⟨_, List.getElem?_eq_getElem hkb⟩
            obtain ⟨g2, off2, rfl, y0⟩ := H2.out.get HFV.out k bk hbk
            have hy := World.block_lt_of_cell? _ _ y0
            simp only at hy
            clear hbk
            by_cases hb0 : 0 < bk
            · by_cases hb9 : bk < 9
              · obtain ⟨n, hbn⟩ : ∃ n : Nat, bk = n := ⟨bk.toNat, by omega⟩
                have HBK := hide hbn
                have hn1 : 1 ≤ n := by omega
                have hn8 : n ≤ 8 := by omega
                clear hbn
                go_wp2
                go_loop [6, 12] (fun y i => ∃ (j : Nat) (sc : List UInt8), y = .string (strOf sc) ∧ i = .int .i64 j ∧ j ≤ n ∧ Gaps j sc (Y ++ [t.shift d2]) ∧ sc.length ≤ 4104 * k + x.size + j) (fun _ i => n - (intOf i).toNat)
                case atStart => exact ⟨0, sb ++ x.data.toList, by rw [HXB.out], rfl, by omega, .inl ⟨rfl, HD2.out⟩, by have e : x.data.toList.length = x.size := rfl; rw [List.length_append, e]; omega⟩
                case round =>
                  obtain ⟨j, sc, rfl, rfl, hj, hgp, hsl⟩ := hrel
                  have HGP := hide hgp
                  have hzc := strOf_size sc
                  have hsc : (strOf sc).size ≤ 36099165763145736 := by omega
                  clear hgp hzc
                  by_cases hjn : j < n
                  · have HB := hide (show strOf sc ++ (⟨#[32, 9, 10]⟩ : ByteArray).extract (j % 3) (j % 3 + 1) = strOf (sc ++ [blankB j]) by rw [blank_str, strOf_append])
                    have HG2 := hide (HGP.out.next (blank_parts j))
                    have hji : (j : Int) < bk := by rw [HBK.out]; omega
                    go_wp2
                    rw [HB.out]
                    exact ⟨⟨j + 1, sc ++ [blankB j], rfl, by go_num, by omega, HG2.out, by simp; omega⟩, by simp [intOf]; omega⟩
                  · obtain rfl : j = n := by omega
                    have hji : ¬ (j : Int) < bk := by rw [HBK.out]; omega
                    go_wp2
                    rw [HXA.out]
                    exact ⟨⟨k + 1, sa ++ x.data.toList ++ [32], sc, X ++ [t.shift d1], Y ++ [t.shift d2], rfl, rfl, by go_num, by omega, ⟨.inr ⟨_, 32, rfl, parts32, HD1.out⟩, HGP.out.ended (by omega), HTO.out.al.snoc t d1 d2, by rw [List.length_append, HTO.out.len]; rfl, by have e : x.data.toList.length = x.size := rfl; have := HTO.out.la; rw [List.length_append, List.length_append, e]; simp; omega, by omega⟩, (HFV.out.trans (Fr.alloc _ _ (fun _ => False))).mono (by simp)⟩, by simp [intOf]; omega⟩
              · go_wp2
                go_loop [6, 12] (fun y i => ∃ (j : Nat) (sc : List UInt8), y = .string (strOf sc) ∧ i = .int .i64 j ∧ j ≤ 1 ∧ Gaps j sc (Y ++ [t.shift d2]) ∧ sc.length ≤ 4104 * k + x.size + j) (fun _ i => 1 - (intOf i).toNat)
                case atStart => exact ⟨0, sb ++ x.data.toList, by rw [HXB.out], rfl, by omega, .inl ⟨rfl, HD2.out⟩, by have e : x.data.toList.length = x.size := rfl; rw [List.length_append, e]; omega⟩
                case round =>
                  obtain ⟨j, sc, rfl, rfl, hj, hgp, hsl⟩ := hrel
                  have HGP := hide hgp
                  have hzc := strOf_size sc
                  have hsc : (strOf sc).size ≤ 36099165763145736 := by omega
                  clear hgp hzc
                  by_cases hjn : j < 1
                  · have HB := hide (show strOf sc ++ (⟨#[32, 9, 10]⟩ : ByteArray).extract (j % 3) (j % 3 + 1) = strOf (sc ++ [blankB j]) by rw [blank_str, strOf_append])
                    have HG2 := hide (HGP.out.next (blank_parts j))
                    have hji : (j : Int) < 1 := by omega
                    go_wp2
                    rw [HB.out]
                    exact ⟨⟨j + 1, sc ++ [blankB j], rfl, by go_num, by omega, HG2.out, by simp; omega⟩, by simp [intOf]; omega⟩
                  · obtain rfl : j = 1 := by omega
                    go_wp2
                    rw [HXA.out]
                    exact ⟨⟨k + 1, sa ++ x.data.toList ++ [32], sc, X ++ [t.shift d1], Y ++ [t.shift d2], rfl, rfl, by go_num, by omega, ⟨.inr ⟨_, 32, rfl, parts32, HD1.out⟩, HGP.out.ended (by omega), HTO.out.al.snoc t d1 d2, by rw [List.length_append, HTO.out.len]; rfl, by have e : x.data.toList.length = x.size := rfl; have := HTO.out.la; rw [List.length_append, List.length_append, e]; simp; omega, by omega⟩, (HFV.out.trans (Fr.alloc _ _ (fun _ => False))).mono (by simp)⟩, by simp [intOf]; omega⟩
            · go_wp2
              go_loop [6, 12] (fun y i => ∃ (j : Nat) (sc : List UInt8), y = .string (strOf sc) ∧ i = .int .i64 j ∧ j ≤ 1 ∧ Gaps j sc (Y ++ [t.shift d2]) ∧ sc.length ≤ 4104 * k + x.size + j) (fun _ i => 1 - (intOf i).toNat)
              case atStart => exact ⟨0, sb ++ x.data.toList, by rw [HXB.out], rfl, by omega, .inl ⟨rfl, HD2.out⟩, by have e : x.data.toList.length = x.size := rfl; rw [List.length_append, e]; omega⟩
              case round =>
                obtain ⟨j, sc, rfl, rfl, hj, hgp, hsl⟩ := hrel
                have HGP := hide hgp
                have hzc := strOf_size sc
                have hsc : (strOf sc).size ≤ 36099165763145736 := by omega
                clear hgp hzc
                by_cases hjn : j < 1
                · have HB := hide (show strOf sc ++ (⟨#[32, 9, 10]⟩ : ByteArray).extract (j % 3) (j % 3 + 1) = strOf (sc ++ [blankB j]) by rw [blank_str, strOf_append])
                  have HG2 := hide (HGP.out.next (blank_parts j))
                  have hji : (j : Int) < 1 := by omega
                  go_wp2
                  rw [HB.out]
                  exact ⟨⟨j + 1, sc ++ [blankB j], rfl, by go_num, by omega, HG2.out, by simp; omega⟩, by simp [intOf]; omega⟩
                · obtain rfl : j = 1 := by omega
                  go_wp2
                  rw [HXA.out]
                  exact ⟨⟨k + 1, sa ++ x.data.toList ++ [32], sc, X ++ [t.shift d1], Y ++ [t.shift d2], rfl, rfl, by go_num, by omega, ⟨.inr ⟨_, 32, rfl, parts32, HD1.out⟩, HGP.out.ended (by omega), HTO.out.al.snoc t d1 d2, by rw [List.length_append, HTO.out.len]; rfl, by have e : x.data.toList.length = x.size := rfl; have := HTO.out.la; rw [List.length_append, List.length_append, e]; simp; omega, by omega⟩, (HFV.out.trans (Fr.alloc _ _ (fun _ => False))).mono (by simp)⟩, by simp [intOf]; omega⟩
          · go_wp2
            go_loop [6, 12] (fun y i => ∃ (j : Nat) (sc : List UInt8), y = .string (strOf sc) ∧ i = .int .i64 j ∧ j ≤ 1 ∧ Gaps j sc (Y ++ [t.shift d2]) ∧ sc.length ≤ 4104 * k + x.size + j) (fun _ i => 1 - (intOf i).toNat)
            case atStart => exact ⟨0, sb ++ x.data.toList, by rw [HXB.out], rfl, by omega, .inl ⟨rfl, HD2.out⟩, by have e : x.data.toList.length = x.size := rfl; rw [List.length_append, e]; omega⟩
            case round =>
              obtain ⟨j, sc, rfl, rfl, hj, hgp, hsl⟩ := hrel
              have HGP := hide hgp
              have hzc := strOf_size sc
              have hsc : (strOf sc).size ≤ 36099165763145736 := by omega
              clear hgp hzc
              by_cases hjn : j < 1
              · have HB := hide (show strOf sc ++ (⟨#[32, 9, 10]⟩ : ByteArray).extract (j % 3) (j % 3 + 1) = strOf (sc ++ [blankB j]) by rw [blank_str, strOf_append])
                have HG2 := hide (HGP.out.next (blank_parts j))
                have hji : (j : Int) < 1 := by omega
                go_wp2
                rw [HB.out]
                exact ⟨⟨j + 1, sc ++ [blankB j], rfl, by go_num, by omega, HG2.out, by simp; omega⟩, by simp [intOf]; omega⟩
              · obtain rfl : j = 1 := by omega
                go_wp2
                rw [HXA.out]
                exact ⟨⟨k + 1, sa ++ x.data.toList ++ [32], sc, X ++ [t.shift d1], Y ++ [t.shift d2], rfl, rfl, by go_num, by omega, ⟨.inr ⟨_, 32, rfl, parts32, HD1.out⟩, HGP.out.ended (by omega), HTO.out.al.snoc t d1 d2, by rw [List.length_append, HTO.out.len]; rfl, by have e : x.data.toList.length = x.size := rfl; have := HTO.out.la; rw [List.length_append, List.length_append, e]; simp; omega, by omega⟩, (HFV.out.trans (Fr.alloc _ _ (fun _ => False))).mono (by simp)⟩, by simp [intOf]; omega⟩
        · have hq : ((T.length : Int) != 1) = true := by simp; omega
          clear hox hlx
          go_wp2
          go_ret
          exact ⟨rfl, (HFV.out.trans (Fr.alloc _ _ (fun _ => False))).mono (by simp)⟩
      · go_wp2
        go_ret
        exact ⟨rfl, (HFV.out.trans (Fr.alloc _ _ (fun _ => False))).mono (by simp)⟩
    · obtain rfl : k = Ws.length := by omega
      clear hfr
      by_cases hlong : 4096 < (strOf sa).size
      · go_wp2
        go_ret
        exact ⟨rfl, HFR.out⟩
      · by_cases hlong2 : 4096 < (strOf sb).size
        · go_wp2
          go_ret
          exact ⟨rfl, HFR.out⟩
        · have HLA := hide (show Lex 0 (strOf sa).data.toList (.ok X) by rw [strOf_toList]; exact HTO.out.a.lex)
          have HLB := hide (show Lex 0 (strOf sb).data.toList (.ok Y) by rw [strOf_toList]; exact HTO.out.b.lex)
          have hXl := HTO.out.len
          have hYl : Y.length = Ws.length := by rw [← HTO.out.al.1]; exact hXl
          have HXL := hide hXl
          have HYL := hide hYl
          clear hXl hYl hsa hsb hla hlb hk hlt
          generalize strOf sa = u at *
          generalize strOf sb = v at *
          go_wp2_with fail
          refine (tokens_fresh u W (by omega) HEW.out X HLA.out).mono ?_
          rintro e W1 ⟨⟨vx, rfl, hox, hqx⟩, hf⟩
          have HF1 := hide ((HFR.out.trans hf).mono (Y := fun _ => False) (by simp))
          have HE1 := hide ((HEW.out.fr hf (fun h => h)).fr (Fr.alloc W1 (.cells #[.int .i64 0, .int .i64 0] 26) (fun _ => False)) (fun h => h))
          have hs1 := hf.size
          have HOX := hide hox
          have HQX := hide hqx
          clear hf hox hqx
          go_wp2_with fail
          refine (tokens_fresh v _ (by omega) HE1.out Y HLB.out).mono ?_
          rintro e W2 ⟨⟨vy, rfl, hoy, hqy⟩, hf⟩
          have HT2 := hide ((newTwo W1 (.int .i64 0) (.int .i64 0) 26).fr hf (fun h => h))
          have HOX2 := hide ((HOX.out.fr (Fr.alloc W1 (.cells #[.int .i64 0, .int .i64 0] 26) (fun _ => False)) (fun _ _ h => h)).fr hf (fun _ _ h => h))
          have HF2 := hide (((HF1.out.trans (Fr.alloc _ _ (fun _ => False))).trans hf).mono (Y := fun _ => False) (by simp))
          have hs2 := hf.size
          have HOY := hide hoy
          have HQY := hide hqy
          have d0 := HT2.out.1
          have hd0 := World.block_lt_of_cell? _ _ d0
          simp only at hd0
          clear hf hoy hqy
          by_cases hz : X = []
          · have hw0 : Ws.length = 0 := by have := HXL.out; rw [hz] at this; simpa using this.symm
            have hy0 : Y = [] := List.eq_nil_of_length_eq_zero (by rw [HYL.out, hw0])
            subst hz hy0
            obtain ⟨ax, cx, rfl, _⟩ := HOX.out.shape
            obtain ⟨ay, cy, rfl, _⟩ := HOY.out.shape
            simp only [List.length_nil] at *
            rw [hw0] at *
            go_wp2
            go_loopw [125] (fun i wr => i = .int .i64 0 ∧ Fr w wr (fun _ => False)) (fun _ _ => 0)
            case atStart => exact ⟨rfl, (HF2.out.trans (Fr.alloc _ _ (fun _ => False))).mono (by simp)⟩
            case round =>
              obtain ⟨rfl, hfr⟩ := hrel
              have HFE := hide hfr
              clear hfr
              go_wp2
              go_ret
              exact ⟨rfl, HFE.out⟩
          · obtain ⟨gx, cx, rfl, hcx, hrx, hbx⟩ := HOX2.out.rows hz
            obtain ⟨gy, cy, rfl, hcy, hry, hby⟩ := HOY.out.rows (fun h => hz (List.eq_nil_of_length_eq_zero (by rw [HXL.out, ← HYL.out, h]; rfl)))
            have hwx : w.heap.size ≤ gx := by have := HQX.out gx hbx; have := HFR.out.size; omega
            have hgy : W1.heap.size + 1 ≤ gy := by have := HQY.out gy hby; simpa using this
            have hgx : gx < W1.heap.size := by
              obtain ⟨g', c', e, _, hr1, _⟩ := HOX.out.rows hz
              simp only [Value.slice.injEq, Option.some.injEq, Addr.mk.injEq, and_true] at e
              obtain ⟨rfl, _⟩ := e
              obtain ⟨t, ht⟩ : ∃ t, X[0]? = some t := by
                cases X with
                | nil => exact absurd rfl hz
                | cons t X => exact ⟨t, rfl⟩
              exact World.block_lt_of_cell? _ _ (hr1.c 0 t ht).1
            have hgy2 : gy < W2.heap.size := by
              obtain ⟨t, ht⟩ : ∃ t, Y[0]? = some t := by
                cases Y with
                | nil => exact absurd (List.eq_nil_of_length_eq_zero (by rw [HXL.out, ← HYL.out]; rfl)) hz
                | cons t Y => exact ⟨t, rfl⟩
              exact World.block_lt_of_cell? _ _ (hry.c 0 t ht).1
            have hs2' : W1.heap.size + 1 ≤ W2.heap.size := by simpa using hs2
            have HRX := hide (hrx.fr (by omega) (Fr.alloc W2 (.cells #[.int .i64 0, .int .i64 0] 26) (fun _ => False)) (fun h => h))
            have HRY := hide (hry.fr (by omega) (Fr.alloc W2 (.cells #[.int .i64 0, .int .i64 0] 26) (fun _ => False)) (fun h => h))
            have HF3 := hide ((HF2.out.trans (Fr.alloc W2 (.cells #[.int .i64 0, .int .i64 0] 26) (fun _ => False))).mono (Y := fun _ => False) (by simp))
            have HAL := hide HTO.out.al.2
            have hwy : w.heap.size ≤ gy := by omega
            have hne : gx ≠ gy := by omega
            rw [HXL.out] at hcx ⊢
            rw [HYL.out] at hcy ⊢
            clear hrx hry hbx hby HOX HOX2 HOY HQX HQY hs2 hs2' hgy2 hgy
            go_wp2
            clear d0 hd0
            generalize W2.alloc (.cells #[.int .i64 0, .int .i64 0] 26) = W3 at *
            go_loopw [125] (fun i wr => ∃ k : Nat, i = .int .i64 k ∧ k ≤ Ws.length ∧ RowsT wr gx X ∧ RowsT wr gy Y ∧ Fr w wr (fun _ => False)) (fun i _ => Ws.length - (intOf i).toNat)
            case atStart => exact ⟨0, rfl, by omega, HRX.out, HRY.out, HF3.out⟩
            case round =>
              rename World => U
              obtain ⟨k, rfl, hk, hux, huy, hfr⟩ := hrel
              have HUX := hide hux
              have HUY := hide huy
              have HFU := hide hfr
              by_cases hlt : k < Ws.length
              · obtain ⟨tx, htx⟩ : ∃ t, X[k]? = some t := ⟨_, List.getElem?_eq_getElem (by rw [HXL.out]; exact hlt)⟩
                obtain ⟨ty, hty⟩ : ∃ t, Y[k]? = some t := ⟨_, List.getElem?_eq_getElem (by rw [HYL.out]; exact hlt)⟩
                obtain ⟨e1, e2, e3⟩ := HAL.out k tx ty htx hty
                obtain ⟨x0, x1, x2, zx, x3⟩ := hux.c k tx htx
                obtain ⟨y0, y1, y2, zy, y3⟩ := huy.c k ty hty
                rw [← e1] at y0
                rw [← e2] at y1
                rw [← e3] at y2
                have fx := hux.z
                have fy := huy.z
                have HX3 := hide (show ∃ y, U.cell? ⟨gx, k * 4 + 3, none⟩ = some y from ⟨_, x3⟩)
                have HY3 := hide (show ∃ y, U.cell? ⟨gy, k * 4 + 3, none⟩ = some y from ⟨_, y3⟩)
                clear hux huy hfr htx hty e1 e2 e3
                generalize strOf tx.text = q at *
                go_wp2
                have hne2 : gy ≠ gx := fun h => hne h.symm
                have HY4 : Hid (∃ y, (U.setCell ⟨gx, k * 4 + 3, none⟩ (.int .i64 0)).cell? ⟨gy, k * 4 + 3, none⟩ = some y) := hide ⟨_, by rw [World.cell?_setCell_other _ _ _ _ (by simp)]; exact y3⟩
                have HUX2 := hide ((HUX.out.set k 0 HX3.out).other (b := gy) (o := k * 4 + 3) (.int .i64 0) hne2)
                have HUY2 := hide ((HUY.out.other (b := gx) (o := k * 4 + 3) (.int .i64 0) hne).set k 0 HY4.out)
                have HFU2 := hide (((HFU.out.trans (Fr.setCell U ⟨gx, k * 4 + 3, none⟩ (.int .i64 0))).trans (Fr.setCell _ ⟨gy, k * 4 + 3, none⟩ (.int .i64 0))).mono (Y := fun _ => False) (fun q hq h => by rcases h with (h | h) | h; exact h; (simp at h; omega); (simp at h; omega)))
                have p0 : ((U.setCell ⟨gx, k * 4 + 3, none⟩ (.int .i64 0)).setCell ⟨gy, k * 4 + 3, none⟩ (.int .i64 0)).cell? ⟨gx, k * 4, none⟩ = some (.int .i64 tx.kind) := by
                  rw [World.cell?_setCell_other _ _ _ _ (by simp), World.cell?_setCell_other _ _ _ _ (by simp)]; exact x0
                have p1 : ((U.setCell ⟨gx, k * 4 + 3, none⟩ (.int .i64 0)).setCell ⟨gy, k * 4 + 3, none⟩ (.int .i64 0)).cell? ⟨gx, k * 4 + 1, none⟩ = some (.string q) := by
                  rw [World.cell?_setCell_other _ _ _ _ (by simp), World.cell?_setCell_other _ _ _ _ (by simp)]; exact x1
                have p2 : ((U.setCell ⟨gx, k * 4 + 3, none⟩ (.int .i64 0)).setCell ⟨gy, k * 4 + 3, none⟩ (.int .i64 0)).cell? ⟨gx, k * 4 + 2, none⟩ = some (.int .i64 tx.num) := by
                  rw [World.cell?_setCell_other _ _ _ _ (by simp), World.cell?_setCell_other _ _ _ _ (by simp)]; exact x2
                have p3 : ((U.setCell ⟨gx, k * 4 + 3, none⟩ (.int .i64 0)).setCell ⟨gy, k * 4 + 3, none⟩ (.int .i64 0)).cell? ⟨gx, k * 4 + 3, none⟩ = some (.int .i64 0) := by
                  rw [World.cell?_setCell_other _ _ _ _ (by simp)]; exact World.cell?_setCell_same _ _ _ x3
                have q0 : ((U.setCell ⟨gx, k * 4 + 3, none⟩ (.int .i64 0)).setCell ⟨gy, k * 4 + 3, none⟩ (.int .i64 0)).cell? ⟨gy, k * 4, none⟩ = some (.int .i64 tx.kind) := by
                  rw [World.cell?_setCell_other _ _ _ _ (by simp), World.cell?_setCell_other _ _ _ _ (by simp)]; exact y0
                have q1 : ((U.setCell ⟨gx, k * 4 + 3, none⟩ (.int .i64 0)).setCell ⟨gy, k * 4 + 3, none⟩ (.int .i64 0)).cell? ⟨gy, k * 4 + 1, none⟩ = some (.string q) := by
                  rw [World.cell?_setCell_other _ _ _ _ (by simp), World.cell?_setCell_other _ _ _ _ (by simp)]; exact y1
                have q2 : ((U.setCell ⟨gx, k * 4 + 3, none⟩ (.int .i64 0)).setCell ⟨gy, k * 4 + 3, none⟩ (.int .i64 0)).cell? ⟨gy, k * 4 + 2, none⟩ = some (.int .i64 tx.num) := by
                  rw [World.cell?_setCell_other _ _ _ _ (by simp), World.cell?_setCell_other _ _ _ _ (by simp)]; exact y2
                have q3 : ((U.setCell ⟨gx, k * 4 + 3, none⟩ (.int .i64 0)).setCell ⟨gy, k * 4 + 3, none⟩ (.int .i64 0)).cell? ⟨gy, k * 4 + 3, none⟩ = some (.int .i64 0) :=
                  World.cell?_setCell_same _ _ _ (by rw [World.cell?_setCell_other _ _ _ _ (by simp)]; exact y3)
                clear x0 x1 x2 x3 y0 y1 y2 y3 fx fy HX3 HY3 HY4 HUX HUY HFU
                generalize (U.setCell ⟨gx, k * 4 + 3, none⟩ (.int .i64 0)).setCell ⟨gy, k * 4 + 3, none⟩ (.int .i64 0) = U2 at *
                have lgx := World.block_lt_of_cell? _ _ p0
                have lgy := World.block_lt_of_cell? _ _ q0
                simp only at lgx lgy
                have HUX3 := hide (HUX2.out.fr lgx (Fr.drew U2 (fun _ => False)) (fun h => h))
                have HUY3 := hide (HUY2.out.fr lgy (Fr.drew U2 (fun _ => False)) (fun h => h))
                go_region
                go_wp2
                exact ⟨⟨k + 1, by go_num, by omega, HUX3.out, HUY3.out, (HFU2.out.trans (Fr.drew U2 (fun _ => False))).mono (by simp)⟩, by simp [intOf]; omega⟩
              · clear hux huy hfr
                go_wp2
                go_ret
                exact ⟨rfl, HFU.out⟩
end Go.Proofs.YtackfnojafinpaaDoor
