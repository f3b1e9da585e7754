/- WholeOrdered: the walk. -/
import Derived.Test.YtiicgfipmdgnhaaXc
namespace Go.Proofs.Ytiicgfipmdgnhaa
open Go.RowKit Go.Shelf
set_option maxRecDepth 100000
set_option linter.unusedVariables false
set_option linter.unusedSimpArgs false
attribute [local go_sem] Oper.semAt_some

set_option maxHeartbeats 32000000 in
theorem ordered_walk {w : World} (z : Int) (a1 : Option Addr) (n1 c1 : Nat) (Rows : List (List Val)) (hn1 : Rows.length = n1) (hb1 : n1 ≤ 1048576) (hI1 : RwsIn w a1 Rows) (a2 : Option Addr) (n2 c2 : Nat) (Hd : List Val) (hn2 : Hd.length = n2) (hb2 : n2 ≤ 1048576) (hI2 : Vals w a2 Hd) (hw2 : Wf Hd) (hnc2 : n2 ≤ c2) : Calls Try.prog 3 #[.int .i64 z, .slice a1 n1 c1, .slice a2 n2 c2] w fun e w' => e = .returned (.bool true) ∧ Fr w w' (fun _ => False) := by
  obtain ⟨base, hb⟩ : ∃ base, base = w.heap.size := ⟨_, rfl⟩
  obtain ⟨w4, hw4⟩ : ∃ w4, w4 = w.alloc (.cells #[.slice a1 n1 c1] 22) := ⟨_, rfl⟩
  obtain ⟨b5, hb5⟩ : ∃ b5, b5 = w4.heap.size := ⟨_, rfl⟩
  obtain ⟨w5, hw5⟩ : ∃ w5, w5 = w4.alloc (.cells #[.slice a2 n2 c2] 23) := ⟨_, rfl⟩
  obtain ⟨b6, hb6⟩ : ∃ b6, b6 = w5.heap.size := ⟨_, rfl⟩
  obtain ⟨w6, hw6⟩ : ∃ w6, w6 = w5.alloc (.cells #[.bool false] 4) := ⟨_, rfl⟩
  have f4 : Fr w w4 (fun _ => False) := by rw [hw4]; exact Fr.alloc w _ _
  have f5 : Fr w4 w5 (fun _ => False) := by rw [hw5]; exact Fr.alloc w4 _ _
  have f6 : Fr w5 w6 (fun _ => False) := by rw [hw6]; exact Fr.alloc w5 _ _
  have B4 : Boxed w4 base 22 (.slice a1 n1 c1) := by rw [hw4, hb]; exact Boxed.new w 22 _
  have B5 : Boxed w5 b5 23 (.slice a2 n2 c2) := by rw [hw5, hb5]; exact Boxed.new w4 23 _
  have B6 : Boxed w6 b6 4 (.bool false) := by rw [hw6, hb6]; exact Boxed.new w5 4 _
  have HX4 := hide (bx_frz (bx_frz B4 f5 (fun h => h)) f6 (fun h => h))
  have HX5 := hide (bx_frz B5 f6 (fun h => h))
  have HX6 := hide B6
  have HF6 := hide ((f4.two f5).two f6)
  have HLT : Hid (base < w6.heap.size ∧ b5 < w6.heap.size ∧ b6 < w6.heap.size ∧ base ≤ b5 ∧ base ≤ b6 ∧ base < b5 ∧ b5 < b6) := hide ⟨HX4.out.lt, HX5.out.lt, HX6.out.lt, by have := f4.size; omega, by have := f4.size; have := f5.size; omega, by have := B4.lt; omega, by have := B5.lt; omega⟩
  have HB := hide hb
  have HB5 := hide hb5
  have HB6 := hide hb6
  have H4 := hide hw4
  have H5 := hide hw5
  have H6 := hide hw6
  have HN1 := hide hn1
  have HI1 := hide hI1
  have HN2 := hide hn2
  have HI2 := hide hI2
  have HW2 := hide hw2
  have HA := hide (new_ts (w := w6) 2)
  clear hb hb5 hb6 hw4 hw5 hw6 f4 f5 f6 B4 B5 B6 hn1 hI1 hn2 hI2 hw2
  refine (callsIn_wide (n := 3)).1 ?_
  refine callsIn_of_wp_marks Try.func3 rfl trivial ?_ rfl
  simp only [Try.ntmps3, List.size_toArray, List.length_cons, List.length_nil, Nat.reduceAdd, Nat.reduceSub, Array.replicate_succ, Array.replicate_zero, List.push_toArray, List.append_toArray, List.nil_append, List.cons_append]
  refine wpIn_mono ?_ leaves_post
  refine wpIn_wide.2 ?_
  go_wp2_with (first | (rw [← H4.out, ← HB.out]; clear H4) | (rw [← H5.out, ← HB5.out]; clear H5) | (rw [← H6.out, ← HB6.out]; clear H6))
  refine HA.out.mono ?_
  rintro en w7 ⟨f7, ⟨h1, _⟩ | ⟨o0, t0, d0, h1, _, _, rfl, ht0, hF0⟩⟩
  · exact absurd h1 (by omega)
  have HP0 := hide (ht0.put (by have := f7.size; exact this) ⟨#[97]⟩ 1 (by rw [hF0]; simp))
  have HT0 := hide ht0
  have HE0 := hide hF0
  have HF7 := hide f7
  clear HA h1 ht0 hF0 f7
  go_wp2_with fail
  refine HP0.out.mono ?_
  rintro en w8 ⟨b8, d8, rfl, hbb, ht8, hm8, hl8, hX8, f8⟩
  have hb8 : b8 = false := by
    cases b8 with
    | false => rfl
    | true => obtain ⟨u, hu⟩ := hbb.1 rfl; rw [HE0.out] at hu; simp at hu
  subst hb8
  have hF8 : d8.F = [(⟨⟨#[97]⟩, 1⟩ : It)] := Srt.ext ht8.srt (Srt.mkc (fun y hy => by simp at hy) List.Pairwise.nil) (fun x => by rw [hm8 x, HE0.out]; simp)
  have HLE8 : Hid (Calls Try.prog 6 #[.pointer (some ⟨t0, 0, none⟩)] w8 fun e w' => e = .returned (.int .i64 1) ∧ w' = w8) := hide (by have h := ht8.len; rw [hF8] at h; exact h)
  have HF8 : Hid (Fr w6 w8 (fun _ => False)) := hide ((HF7.out.trans f8).mono (fun k hk h => h.elim id (fun h => by have := HT0.out.base k h; omega)))
  clear HP0 hbb ht8 hm8 hl8 hX8 f8 hF8 HT0 HE0 HF7
  go_wp2_with fail
  refine HLE8.out.mono ?_
  rintro en wx ⟨rfl, hww⟩
  rw [hww]
  clear hww HLE8
  have HN := hide (new_ts (w := w8) z)
  go_wp2_with fail
  refine HN.out.mono ?_
  rintro en w9 ⟨f9, h9⟩
  have HF9 := hide (HF8.out.two f9)
  have HS89 := hide f9.size
  clear HN f9
  have HX4 := hide (bx_frz HX4.out HF9.out (fun h => h))
  have HX5 := hide (bx_frz HX5.out HF9.out (fun h => h))
  have HX6 := hide (bx_frz HX6.out HF9.out (fun h => h))
  rcases h9 with ⟨_, rfl⟩ | ⟨o, tb, d, _, ho2, ho64, rfl, ht, hF⟩
  · have x6 := HX6.out.cell
    have z6 := HX6.out.frozen
    obtain ⟨wA, hwA⟩ : ∃ wA, wA = w9.setCell ⟨b6, 0, none⟩ (.bool true) := ⟨_, rfl⟩
    have y6 : Boxed wA b6 4 (.bool true) := by rw [hwA]; exact bx_put HX6.out _
    have fA : Fr w9 wA (fun k => k = b6) := by rw [hwA]; exact Fr.setCell _ _ _
    have HRES : Hid (Boxed wA b6 4 (.bool true) ∧ Fr w wA (fun _ => False)) := hide ⟨y6, ((HF6.out.two HF9.out).trans fA).mono (fun k hk h => h.elim id (fun h => by have := HLT.out; have := HB.out; omega))⟩
    have HWA := hide hwA
    clear hwA y6 fA
    go_wp2_with (rw [← HWA.out]; clear HWA)
    exact ⟨_, results_bc rfl _ _ b6 HRES.out.1 rfl, rfl, HRES.out.2⟩
  have HST : Hid (OrI base o w tb base b5 b6 (.slice a1 n1 c1) (.slice a2 n2 c2) Rows 0 w9) := hide (by
    have hs : w6.heap.size ≤ w8.heap.size := HF8.out.size
    refine ⟨d, ⟨ht.mono (by have := HLT.out; omega), HX4.out, HX5.out, HX6.out, fun h => ?_, fun h => ?_, fun h => ?_, (HF6.out.two HF9.out).mono (fun _ _ h => h.elim)⟩, fun x hx => (by rw [hF] at hx; cases hx), by rw [hF]; exact Nat.le_refl _⟩
    · have := ht.base _ h; have := HLT.out; omega
    · have := ht.base _ h; have := HLT.out; omega
    · have := ht.base _ h; have := HLT.out; omega)
  have x4 := HX4.out.cell
  clear ht hF HF8 HF9 HS89
  go_wp2_with fail
  go_loopw [55] (fun vi V => ∃ i : Nat, i ≤ n1 ∧ vi = .int .i64 (i : Int) ∧ OrI base o w tb base b5 b6 (.slice a1 n1 c1) (.slice a2 n2 c2) Rows i V) (fun vi _ => n1 - (intOf vi).toNat)
  case atStart => exact ⟨0, Nat.zero_le _, rfl, HST.out⟩
  case round =>
    obtain ⟨i, hin, rfl, hA⟩ := hrel
    rename World => V
    have HAI := hide hA
    clear hA HST x4
    by_cases hlt : i < n1
    · obtain ⟨R, hR⟩ : ∃ R, Rows[i]? = some R := ⟨_, List.getElem?_eq_getElem (by rw [HN1.out]; exact hlt)⟩
      obtain ⟨d, hos, hrw, hdl⟩ := HAI.out
      obtain ⟨g, off, a', c', rfl, e0, hv, hRl, hRw⟩ := (HI1.out.old (hos.fr.mono (fun k _ h => by rw [← HB.out]; exact h))) i R hR
      have HEN := hide (encode_any a' c' R V hv hRl)
      obtain ⟨rn, hrn⟩ : ∃ rn, rn = R.length := ⟨_, rfl⟩
      obtain ⟨code, hcode⟩ : ∃ code, code = checkL R := ⟨_, rfl⟩
      rw [← hrn, ← hcode] at HEN
      rw [← hrn] at e0
      have HOS := hide hos
      have HRW := hide hrw
      have HDL := hide hdl
      have HR := hide hR
      have HRWF := hide hRw
      have HCD := hide hcode
      clear hos hrw hdl hR hv hRl hRw hrn hcode HAI
      go_wp2_with fail
      refine HEN.out.mono ?_
      rintro en V1 ⟨v1, rfl, ho1, f1, u1⟩
      obtain ⟨ae, ce, rfl⟩ := ho1.shape
      have HOS1 := hide (HOS.out.q f1)
      by_cases hc0 : code = 0
      · have hce : encR R = encL R := by rw [encR, if_pos (by rw [← HCD.out]; exact hc0)]
        have hczi : ((code : Int) == 0) = true := by rw [hc0]; rfl
        have bx := ho1.bi
        rw [hce] at bx
        have hcv := run_string V1 ae _ ce _ bx.bin
        obtain ⟨el, hel⟩ : ∃ el, el = (encL R).length := ⟨_, rfl⟩
        rw [← hel] at hcv
        rw [hce, ← hel]
        have HPU := hide (HOS1.out.ts.put HOS1.out.hb (strOf (encL R)) (i : Int) (by have := HDL.out; omega))
        have HC0 := hide hc0
        clear HEN ho1 f1 u1 hce bx hel hc0
        go_wp2_with fail
        refine HPU.out.mono ?_
        rintro en V2 ⟨b1, e1, rfl, _, ht1, hm1, hl1, hX1, f1⟩
        have HREL : Hid (OrI base o w tb base b5 b6 (.slice (some ⟨g, off, none⟩) n1 c1) (.slice a2 n2 c2) Rows (i + 1) V2) := hide ⟨e1, HOS1.out.step ht1 hX1 f1, fun x hx => by
          rcases (hm1 x).1 hx with ⟨h1, _⟩ | h1
          · exact HRW.out x h1
          · exact ⟨i, R, by rw [h1], HR.out, by rw [← HCD.out]; exact HC0.out, by rw [h1]⟩, by have := HDL.out; omega⟩
        clear HPU ht1 hm1 hl1 hX1 f1 HOS1 HOS HRW HDL HR HRWF HCD hcv e0 hczi
        go_wp2
        go_roundw
        case rel => exact ⟨i + 1, by omega, by go_num, HREL.out⟩
        case measure => simp [intOf]; omega
      · have hczi : ((code : Int) == 0) = false := by simp; omega
        have HREL : Hid (OrI base o w tb base b5 b6 (.slice (some ⟨g, off, none⟩) n1 c1) (.slice a2 n2 c2) Rows (i + 1) V1) := hide ⟨d, HOS1.out, HRW.out, by have := HDL.out; omega⟩
        clear HEN ho1 f1 u1 HOS1 HOS HRW HDL HR HRWF HCD e0 hc0
        go_wp2
        go_roundw
        case rel => exact ⟨i + 1, by omega, by go_num, HREL.out⟩
        case measure => simp [intOf]; omega
    · have hge : ¬ ((i : Int) < (n1 : Int)) := by omega
      obtain ⟨d, hos, hrw, hdl⟩ := HAI.out
      obtain ⟨b13, hb13⟩ : ∃ b13, b13 = V.heap.size := ⟨_, rfl⟩
      obtain ⟨V1, hV1⟩ : ∃ V1, V1 = V.alloc (.cells #[.slice none 0 0] 23) := ⟨_, rfl⟩
      obtain ⟨b14, hb14⟩ : ∃ b14, b14 = V1.heap.size := ⟨_, rfl⟩
      obtain ⟨V2, hV2⟩ : ∃ V2, V2 = V1.alloc (.cells #[.int .i64 0] 3) := ⟨_, rfl⟩
      obtain ⟨V3, hV3⟩ : ∃ V3, V3 = V2.setCell ⟨b14, 0, none⟩ (.int .i64 0) := ⟨_, rfl⟩
      have f1 : Fr V V1 (fun _ => False) := by rw [hV1]; exact Fr.alloc V _ _
      have f2 : Fr V1 V2 (fun _ => False) := by rw [hV2]; exact Fr.alloc V1 _ _
      have B13 : Boxed V1 b13 23 (.slice none 0 0) := by rw [hV1, hb13]; exact Boxed.new V 23 _
      have B14 : Boxed V2 b14 3 (.int .i64 0) := by rw [hV2, hb14]; exact Boxed.new V1 3 _
      have f3 : Fr V2 V3 (fun k => k = b14) := by rw [hV3]; exact Fr.setCell _ _ _
      have C14 : Boxed V3 b14 3 (.int .i64 0) := by rw [hV3]; exact bx_put B14 _
      have l13 := B13.lt
      have fV : Fr V V3 (fun _ => False) := ((f1.two f2).trans f3).mono (fun k hk h => h.elim id (fun h => by have := f1.size; omega))
      have C13 : Boxed V3 b13 23 (.slice none 0 0) := bx_frz (bx_frz B13 f2 (fun h => h)) f3 (by omega)
      have hos3 := hos.q fV
      have HRG := hide (hos3.ts.range ⟨#[]⟩ ⟨#[]⟩ (by omega) (by omega))
      have xA := B14.cell
      have zA := B14.frozen
      have HOS := hide hos3
      have HRW := hide hrw
      have HDL := hide hdl
      have HC13 := hide C13
      have HC14 := hide C14
      have HNB : Hid (¬ TX tb d b13 ∧ ¬ TX tb d b14 ∧ base ≤ b13 ∧ b13 < b14 ∧ b13 ≠ base ∧ b13 ≠ b5 ∧ b13 ≠ b6 ∧ b14 ≠ base ∧ b14 ≠ b5 ∧ b14 ≠ b6) := hide (by
        have q1 := hos.hb
        have q4 := hos.x4.lt
        have q5 := hos.x5.lt
        have q6 := hos.x6.lt
        have s1 := f1.size
        exact ⟨fun h => by have := hos.ts.lt _ h; omega, fun h => by have := hos.ts.lt _ h; omega, by omega, by omega, by omega, by omega, by omega, by omega, by omega, by omega⟩)
      have HH1 := hide hV1
      have HH2 := hide hV2
      have HH3 := hide hV3
      have HB13 := hide hb13
      have HB14 := hide hb14
      clear hos hrw hdl hb13 hV1 hb14 hV2 hV3 f1 f2 B13 B14 f3 C14 l13 fV C13 hos3 HAI
      go_wp2_with (first | (rw [← HH1.out, ← HB13.out]; clear HH1) | (rw [← HH2.out, ← HB14.out]; clear HH2) | (rw [← HH3.out]; clear HH3))
      refine HRG.out.mono ?_
      rintro en W3 ⟨RR, AA, BB, hh, lo, rfl, t3, hsub, rR, rA, rB, g3, hnt⟩
      clear xA zA
      go_wp2_with fail
      obtain ⟨dx, hdx⟩ : ∃ dx, dx = d.old := ⟨_, rfl⟩
      obtain ⟨G, hG⟩ : ∃ G, G = d.F := ⟨_, rfl⟩
      have hGx : G = rng ⟨#[]⟩ ⟨#[]⟩ dx.F := by rw [rng_all, hdx, hG]; rfl
      rw [← hdx] at t3 hsub rR
      have hsrG : Srt G := by rw [hG]; exact HOS.out.ts.srt
      have hseq := range_stops hsub t3.srt ho64 hGx rR rA rB (3 - 1)
      obtain ⟨X0, hX0⟩ : ∃ X0, X0 = dx.X := ⟨_, rfl⟩
      rw [← hX0] at hseq
      obtain ⟨n0, hn0⟩ : ∃ n0, n0 = W3.heap.size := ⟨_, rfl⟩
      have hTXn : ∀ k, TX tb dx k → k < n0 := fun k hk => by rw [hn0]; exact t3.lt k hk
      have hlx : ∀ k, X0 k → k < n0 := fun k hk => hTXn k (.inr (by rw [← hX0]; exact hk))
      have hTXe : ∀ k, TX tb dx k ↔ TX tb d k := fun k => by rw [hdx]; exact Iff.rfl
      have hos0 : OS base o 1 w W3 tb dx base b5 b6 (.slice a1 n1 c1) (.slice a2 n2 c2) := HOS.out.step t3 (fun k hk => .inl ((hTXe k).1 hk)) (g3.mono (fun k _ h => .inl h))
      have hst : M1 base o 1 w tb dx base b5 b6 (.slice a1 n1 c1) (.slice a2 n2 c2) b13 b14 ([] : List (In G)) W3 := ⟨hos0, ⟨none, 0, [], bx_frz HC13.out g3 (fun e => HNB.out.1 (.inl e)), OwnV.nil _, fun k hk => (by cases hk), fun y hy => (by cases hy), by simp⟩, bx_frz HC14.out g3 (fun e => HNB.out.2.1 (.inl e))⟩
      have hbn : base ≤ n0 := by have := hos0.hb; omega
      have hb13n : b13 < n0 ∧ b14 < n0 := by have h1 := hst.cn.lt; obtain ⟨_, _, _, h2, _⟩ := hst.la; have := h2.lt; omega
      have hxx : ¬ X0 b13 ∧ ¬ X0 b14 ∧ ¬ X0 b6 := ⟨fun h => HNB.out.1 ((hTXe _).1 (.inr (by rw [← hX0]; exact h))), fun h => HNB.out.2.1 ((hTXe _).1 (.inr (by rw [← hX0]; exact h))), fun h => hos0.n6 (.inr (by rw [← hX0]; exact h))⟩
      have hrwG : ∀ x ∈ G, RowOf Rows x := by rw [hG]; exact HRW.out
      have hGl : G.length ≤ 1048576 := by rw [hG]; have := HDL.out; omega
      have HST2 := hide hst
      have HRWG := hide hrwG
      have HSRG := hide hsrG
      have HG := hide hG
      have HXX := hide hxx
      have HBN := hide hbn
      have HB13N := hide hb13n
      have HNB2 : Hid (¬ TX tb dx b13 ∧ ¬ TX tb dx b14) := hide ⟨fun h => HNB.out.1 ((hTXe _).1 h), fun h => HNB.out.2.1 ((hTXe _).1 h)⟩
      have HTXN := hide hTXn
      have HN0 := hide hn0
      have HDX : Hid (dx.F = G) := hide (by rw [hdx, hG]; rfl)
      clear HRG g3 t3 hsub rR rA rB hst hos0 hbn hb13n hxx hrwG hsrG hG hGx hX0 hTXe HOS HRW HC13 HC14 hnt hn0 hdx
      refine (wpIn_wide (n := 3)).1 ?_
      refine' wpIn_rangeFunc_ownG (w0 := W3) rfl (by omega) (gf := 19) (lb := #[.pointer (some ⟨RR, 0, none⟩), .pointer (some ⟨AA, 0, none⟩), .pointer (some ⟨BB, 0, none⟩)]) rfl trivial (enters_of Try.func19 (by kernel_rfl) rfl)
        hseq (fun h k => KX.trans h k) (fun W l o o' hl _ _ _ => (Fr.grown (grownBy_putObj' W l o')).mono (fun k _ e hx => by have e := Option.some.inj e; have := hlx k hx; have := HN0.out; omega)) (RowKit.Below.refl _ _) (fun _ => rfl)
        (fun pre W => M1 base o 1 w tb dx base b5 b6 (.slice a1 n1 c1) (.slice a2 n2 c2) b13 b14 pre W)
        (fun c pre W => c = .ret ∧ ¬ pre.map (fun x => x.1) <+: G)
        (m1_own (by rw [← HN0.out]; exact HBN.out) (by rw [← HN0.out]; exact HTXN.out))
        (fun c s W W' row hs hg hr => hs)
        HST2.out _ ?assign ?body ?done ?stop
      case assign =>
        intro l x W K hK
        gi_wp2
        exact hK
      case stop =>
        rintro D c pre W hD hpre ⟨_, hno⟩ hK
        exact absurd hpre hno
      case body =>
        rintro l pre ⟨⟨xk, xv⟩, hxG⟩ W hm hlt
        obtain ⟨j, R, hj, hRj, hck, hkey⟩ := HRWG.out _ hxG
        dsimp only at hj hkey
        subst hj
        subst hkey
        obtain ⟨pn, hpn⟩ : ∃ pn, pn = pre.length := ⟨_, rfl⟩
        have hpb : pn < 1048576 := by omega
        obtain ⟨hosW, ⟨la, lc, L, h13, hL, hlk, hLok, hLl⟩, h14⟩ := hm
        rw [← hpn] at h14
        have hWb := hosW.fr.size
        obtain ⟨g, off, a', c', e1, e0, hvR, hRl, hRw⟩ := (HI1.out.old (hosW.fr.mono (fun k _ h => by rw [← HB.out]; exact h))) j R hRj
        have hjn : j < n1 := by rw [← HN1.out]; exact (List.getElem?_eq_some_iff.1 hRj).1
        obtain ⟨k1, k2, k3⟩ := decCode_enc hck hRw
        obtain ⟨c3, V1, hcv, bi1, hc3, f1⟩ := conv_any W (strOf (encL R))
        rw [strOf_data] at bi1
        obtain ⟨g1, hg1⟩ : ∃ g1, g1 = W.heap.size := ⟨_, rfl⟩
        obtain ⟨el, hel⟩ : ∃ el, el = (strOf (encL R)).size := ⟨_, rfl⟩
        rw [← hg1, ← hel] at hcv bi1
        rw [← hel] at hc3
        have hel2 : el = (encL R).length := by rw [hel]; simp [strOf, ByteArray.size]
        have helb : el ≤ 268435456 := by have := length_encL R hck; omega
        have HD : Hid (Calls Try.prog 9 #[.slice (some ⟨g1, 0, none⟩) el c3] V1 fun e w' => ∃ v', e = .returned (.tuple #[v', .agg #[.int .i64 0, .int .i64 0]]) ∧ OwnV w' v' R ∧ Fr V1 w' (fun _ => False) ∧ ∀ q, v'.ownBlock = some q → V1.heap.size ≤ q) := hide (by
          have h := decode_any (some ⟨g1, 0, none⟩) el c3 (encL R) V1 bi1 helb hc3
          rw [k1, k2, k3] at h
          exact h)
        have HM := hide (M1.mk hosW ⟨la, lc, L, h13, hL, hlk, hLok, hLl⟩ (by rw [← hpn]; exact h14))
        have HV := hide hvR
        have HRL := hide hRl
        have HRWF := hide hRw
        have HCK := hide hck
        have HF1 := hide f1
        have HE := hide e1
        have HE0 := hide e0
        have HPN := hide hpn
        have HG1 := hide hg1
        clear hosW h13 hL hlk hLok hLl h14 hvR hRl hRw hck f1 bi1 hc3 hel hel2 helb k1 k2 k3 hRj hlt hseq hlx e0 hpn hg1 hWb
        subst e1
        gi_wp2_with fail
        refine ⟨trivial, CallsIn.inRound l (callsIn_wide.2 (HD.out.mono ?_))⟩
        rintro en V2 ⟨v2, rfl, ho2, f2, u2⟩
        obtain ⟨av, cv, rfl⟩ := ho2.shape
        obtain ⟨b18, hb18⟩ : ∃ b18, b18 = V2.heap.size := ⟨_, rfl⟩
        obtain ⟨V3, hV3⟩ : ∃ V3, V3 = V2.alloc (.cells #[.int .i64 0, .int .i64 0] 37) := ⟨_, rfl⟩
        obtain ⟨V4, hV4⟩ : ∃ V4, V4 = (V3.setCell ⟨b18, 0, none⟩ (.int .i64 0)).setCell ⟨b18, 1, none⟩ (.int .i64 0) := ⟨_, rfl⟩
        have f3 : Fr V2 V3 (fun _ => False) := by rw [hV3]; exact Fr.alloc V2 _ _
        have c18 : V3.heap[b18]? = some (.cells #[.int .i64 0, .int .i64 0] 37 (0, 0)) := by rw [hV3, hb18]; exact heap_alloc_new V2 _
        have d18 : V4.heap[b18]? = some (.cells #[.int .i64 0, .int .i64 0] 37 (0, 0)) := by rw [hV4]; exact heap_setCell_here _ b18 1 (.int .i64 0) _ _ _ (heap_setCell_here _ b18 0 (.int .i64 0) _ _ _ c18)
        have f34 : Fr V3 V4 (fun k => k = b18) := by rw [hV4]; exact ((Fr.setCell V3 ⟨b18, 0, none⟩ _).trans (Fr.setCell _ ⟨b18, 1, none⟩ _)).mono (fun k _ h => by simpa using h)
        have F24 : Fr V2 V4 (fun _ => False) := (f3.trans f34).mono (fun k hk h => h.elim id (fun h => by omega))
        have FW4 : Fr W V4 (fun _ => False) := (HF1.out.two f2).two F24
        have y0 : V3.cell? ⟨b18, 0, none⟩ = some (.int .i64 0) := (cell_of_row _ _ _ _ _ _ c18).trans rfl
        have y1 : V3.cell? ⟨b18, 1, none⟩ = some (.int .i64 0) := (cell_of_row _ _ _ _ _ _ c18).trans rfl
        have yz0 : V3.frozen? ⟨b18, 0, none⟩ = false := by simp [World.frozen?, c18]
        have yz1 : V3.frozen? ⟨b18, 1, none⟩ = false := by simp [World.frozen?, c18]
        have x18 : V4.cell? ⟨b18, 0, none⟩ = some (.int .i64 0) := (cell_of_row _ _ _ _ _ _ d18).trans rfl
        have hM4 := HM.out.q FW4
        have x4 := hM4.os.x4.cell
        have e0 := FW4.cell (fun h => h) HE0.out
        obtain ⟨rn, hrn⟩ : ∃ rn, rn = R.length := ⟨_, rfl⟩
        have hrnb : rn ≤ 1048576 := by rw [hrn]; exact HRL.out
        have hO4 := ho2.fr F24 (fun _ _ h => h)
        have hV4v : Vals V4 a' R := HV.out.old (FW4.mono (fun _ _ h => h.elim))
        have HSM : Hid (Calls Try.prog 10 #[.slice av rn cv, .slice a' rn c'] V4 fun e w' => e = .returned (.bool true) ∧ Fr V4 w' (fun _ => False)) := hide (by
          have h := same_gen av a' cv c' R R V4 hO4.vals hV4v (by omega) (by omega)
          rw [show decide (R.length = R.length ∧ cmpL R R = 0) = true by simp [cmpL_self]] at h
          rw [hrn]; exact h)
        rw [← hrn] at e0 ⊢
        have hjn' : ¬ ((n1 : Int) ≤ (j : Int)) := by omega
        have hj0 : ¬ ((j : Int) < 0) := by omega
        have HM4 := hide hM4
        have HO4 := hide hO4
        have HU2 := hide u2
        have HSZ : Hid (W.heap.size ≤ V1.heap.size) := hide HF1.out.size
        have HFW4 := hide FW4
        have HRN := hide hrn
        have HH3 := hide hV3
        have HH4 := hide hV4
        have HB18 := hide hb18
        clear HD ho2 f2 u2 hb18 hV3 hV4 f3 c18 d18 f34 F24 FW4 hM4 hO4 hV4v hrn hcv
        gi_wp2_with (first | (rw [← HH3.out, ← HB18.out]; clear HH3) | (rw [← HH4.out]; clear HH4))
        refine ⟨trivial, CallsIn.inRound l (callsIn_wide.2 (HSM.out.mono ?_))⟩
        rintro en V5 ⟨rfl, f5⟩
        have hM5 := HM4.out.q f5
        obtain ⟨hos5, ⟨la, lc, L, h13, hL, hlk, hLok, hLl⟩, h14⟩ := hM5
        rw [← HPN.out] at h14
        have x13 := h13.cell
        have z13 := h13.frozen
        have x14 := h14.cell
        have z14 := h14.frozen
        have x6 := hos5.x6.cell
        have z6 := hos5.x6.frozen
        obtain ⟨ll, hll⟩ : ∃ ll, ll = L.length := ⟨_, rfl⟩
        rw [← hll] at x13
        have HM5 : Hid (M1 base o 1 w tb dx base b5 b6 (.slice (some ⟨g, off, none⟩) n1 c1) (.slice a2 n2 c2) b13 b14 pre V5) := hide ⟨hos5, ⟨la, lc, L, h13, hL, hlk, hLok, hLl⟩, by rw [← HPN.out]; exact h14⟩
        have HO5 := hide (HO4.out.fr f5 (fun _ _ h => h))
        have HFW5 := hide (HFW4.out.two f5)
        obtain ⟨p1, hp1⟩ : ∃ p1, p1 = pn + 1 := ⟨_, rfl⟩
        have hpi : (pn : Int) + 1 = (p1 : Int) := by omega
        have hp1b : p1 ≤ 1048577 := by omega
        have HP1 : Hid (p1 = (pre ++ [(⟨⟨strOf (encL R), (j : Int)⟩, hxG⟩ : In G)]).length) := hide (by rw [List.length_append, ← HPN.out]; exact hp1)
        have HLL := hide hll
        have HLOK := hide hLok
        have HLB := hide hLl
        have HCL := hide (codecCompare_any la av lc cv L R V5 hL.vals HO5.out.vals (by omega) (by have := HRL.out; omega))
        rw [← hll, ← HRN.out] at HCL
        have hNE : ∀ k, (Value.slice av R.length cv).ownBlock = some k → k ≠ b13 ∧ k ≠ b14 ∧ base ≤ k := fun k hk => by
          have h1 := HU2.out k hk
          have h2 := HSZ.out
          have h3 := HM.out.os.hb
          have h4 := HM.out.cn.lt
          obtain ⟨_, _, _, h5, _⟩ := HM.out.la
          have h6 := h5.lt
          omega
        have HNE := hide hNE
        clear HSM f5 hos5 h13 hL hlk hLok hLl h14 hll hp1 hNE x18 x4 e0 y0 y1 yz0 yz1 HM4 HFW4 HO4
        by_cases hp0 : pn = 0
        · have hp0i : ¬ (0 < (pn : Int)) := by omega
          clear hp0 HCL
          gi_wp2_with fail
          refine ⟨trivial, ?_⟩
          obtain ⟨V6, hV6⟩ : ∃ V6, V6 = V5.setCell ⟨b13, 0, none⟩ (.slice av rn cv) := ⟨_, rfl⟩
          obtain ⟨V7, hV7⟩ : ∃ V7, V7 = V6.setCell ⟨b14, 0, none⟩ (.int .i64 (p1 : Int)) := ⟨_, rfl⟩
          have f6 : Fr V5 V6 (fun k => k = b13) := by rw [hV6]; exact Fr.setCell _ _ _
          have y14 : Boxed V6 b14 3 (.int .i64 (pn : Int)) := by have h := HM5.out.cn; rw [← HPN.out] at h; exact bx_frz h f6 (by have := HNB.out; omega)
          obtain ⟨hn1', hn2'⟩ := m1_next (x := ⟨⟨strOf (encL R), (j : Int)⟩, hxG⟩) HM5.out HNB2.out ⟨HNB.out.2.2.1, HNB.out.2.2.2.1, HNB.out.2.2.2.2.1, HNB.out.2.2.2.2.2.1, HNB.out.2.2.2.2.2.2.1, HNB.out.2.2.2.2.2.2.2.1, HNB.out.2.2.2.2.2.2.2.2.1, HNB.out.2.2.2.2.2.2.2.2.2⟩ HO5.out HNE.out ⟨HCK.out, HRWF.out, rfl⟩ HRL.out HP1.out (by rw [hV6, HRN.out]) hV7
          have z14b := y14.frozen
          have x14b := y14.cell
          have hFW7 := (HFW5.out.mono (Y := fun k => k = b13 ∨ k = b14) (fun _ _ h => h.elim)).two hn2'
          have KF : Hid (KeepsFrom W3.heap.size W V7) := hide (keeps_fr hFW7 (fun k hk => by
            rcases hk with rfl | rfl
            · obtain ⟨_, _, _, h5, _⟩ := HM.out.la; exact bx_isc h5
            · exact bx_isc HM.out.cn))
          have KXX : Hid (KX X0 W V7) := hide (hFW7.mono (fun k _ hk hx => by
            rcases hk with rfl | rfl
            · exact HXX.out.1 hx
            · exact HXX.out.2.1 hx))
          have HN7 := hide hn1'
          have HH6 := hide hV6
          have HH7 := hide hV7
          clear hV6 hV7 f6 y14 hn1' hn2' hFW7 
          gi_wp2_with (first | (rw [← HH6.out]; clear HH6) | (rw [← HH7.out]; clear HH7))
          exact ⟨KF.out, KXX.out, HN7.out⟩
        · have hp0i : 0 < (pn : Int) := by omega
          clear hp0
          gi_wp2_with fail
          refine ⟨trivial, CallsIn.inRound l (callsIn_wide.2 (HCL.out.mono ?_))⟩
          rintro en V8 ⟨rfl, f8⟩
          obtain ⟨cm, hcm⟩ : ∃ cm, cm = cmpL L R := ⟨_, rfl⟩
          rw [← hcm]
          have HCM := hide hcm
          have HM8 := hide (HM5.out.q f8)
          have HO8 := hide (HO5.out.fr f8 (fun _ _ h => h))
          have HFW8 := hide (HFW5.out.two f8)
          have x13 := f8.cell (fun h => h) x13
          have z13 : V8.frozen? ⟨b13, 0, none⟩ = false := by obtain ⟨_, _, _, h, _⟩ := HM8.out.la; exact h.frozen
          have x14 := f8.cell (fun h => h) x14
          have x6 := HM8.out.os.x6.cell
          have z6 := HM8.out.os.x6.frozen
          clear hcm f8 HCL
          by_cases hc0 : cm < 0
          · have hcni : ¬ (0 ≤ cm) := by omega
            clear hc0
            obtain ⟨V6, hV6⟩ : ∃ V6, V6 = V8.setCell ⟨b13, 0, none⟩ (.slice av rn cv) := ⟨_, rfl⟩
            obtain ⟨V7, hV7⟩ : ∃ V7, V7 = V6.setCell ⟨b14, 0, none⟩ (.int .i64 (p1 : Int)) := ⟨_, rfl⟩
            have f6 : Fr V8 V6 (fun k => k = b13) := by rw [hV6]; exact Fr.setCell _ _ _
            have y14 : Boxed V6 b14 3 (.int .i64 (pn : Int)) := by have h := HM8.out.cn; rw [← HPN.out] at h; exact bx_frz h f6 (by have := HNB.out; omega)
            obtain ⟨hn1', hn2'⟩ := m1_next (x := ⟨⟨strOf (encL R), (j : Int)⟩, hxG⟩) HM8.out HNB2.out ⟨HNB.out.2.2.1, HNB.out.2.2.2.1, HNB.out.2.2.2.2.1, HNB.out.2.2.2.2.2.1, HNB.out.2.2.2.2.2.2.1, HNB.out.2.2.2.2.2.2.2.1, HNB.out.2.2.2.2.2.2.2.2.1, HNB.out.2.2.2.2.2.2.2.2.2⟩ HO8.out HNE.out ⟨HCK.out, HRWF.out, rfl⟩ HRL.out HP1.out (by rw [hV6, HRN.out]) hV7
            have z14b := y14.frozen
            have x14b := y14.cell
            have hFW7 := (HFW8.out.mono (Y := fun k => k = b13 ∨ k = b14) (fun _ _ h => h.elim)).two hn2'
            have KF : Hid (KeepsFrom W3.heap.size W V7) := hide (keeps_fr hFW7 (fun k hk => by
              rcases hk with rfl | rfl
              · obtain ⟨_, _, _, h5, _⟩ := HM.out.la; exact bx_isc h5
              · exact bx_isc HM.out.cn))
            have KXX : Hid (KX X0 W V7) := hide (hFW7.mono (fun k _ hk hx => by
              rcases hk with rfl | rfl
              · exact HXX.out.1 hx
              · exact HXX.out.2.1 hx))
            have HN7 := hide hn1'
            have HH6 := hide hV6
            have HH7 := hide hV7
            clear hV6 hV7 f6 y14 hn1' hn2' hFW7 
            gi_wp2_with (first | (rw [← HH6.out]; clear HH6) | (rw [← HH7.out]; clear HH7))
            exact ⟨KF.out, KXX.out, HN7.out⟩
          · have hc0i : 0 ≤ cm := by omega
            have KF : Hid (KeepsFrom W3.heap.size W (V8.setCell ⟨b6, 0, none⟩ (.bool false))) := hide (keeps_fr ((HFW8.out.mono (Y := fun k => k = b6) (fun _ _ h => h.elim)).two (Fr.setCell _ _ _)) (fun k hk => by rw [show k = b6 from hk]; exact bx_isc HM.out.os.x6))
            have HNP : Hid (¬ (pre ++ [(⟨⟨strOf (encL R), (j : Int)⟩, hxG⟩ : In G)]).map (fun x => x.1) <+: G) := hide (fun h => by
              obtain ⟨y, hy⟩ : ∃ y, pre.getLast? = some y := by
                cases hq : pre.getLast? with
                | none => rw [List.getLast?_eq_none_iff] at hq; have h1 := HPN.out; rw [hq] at h1; simp at h1; omega
                | some y => exact ⟨y, rfl⟩
              have h1 := last_pair HSRG.out hy h
              obtain ⟨q1, q2, q3⟩ := HLOK.out y hy
              rw [q3] at h1
              dsimp only at h1
              rw [kc_enc q1 HCK.out q2 HRWF.out, ← HCM.out] at h1
              omega)
            clear hc0
            gi_wp2_with fail
            exact ⟨KF.out, rfl, HNP.out⟩
      case done =>
        rintro D xs W hD hxs hm hK
        obtain ⟨gl, hgl⟩ : ∃ gl, gl = G.length := ⟨_, rfl⟩
        have hxl : xs.length = gl := by have h := congrArg List.length hxs; rw [List.length_map] at h; rw [hgl]; exact h
        obtain ⟨hos, _, h14⟩ := hm
        rw [hxl] at h14
        have hglb : gl ≤ 1048576 := by omega
        have x5 := hos.x5.cell
        have hvH : Vals W a2 Hd := HI2.out.old (hos.fr.mono (fun k _ h => by rw [← HB.out]; exact h))
        have HEH := hide (encode_any a2 c2 Hd W hvH (by rw [HN2.out]; exact hb2))
        obtain ⟨code2, hcode2⟩ : ∃ c, c = checkL Hd := ⟨_, rfl⟩
        rw [HN2.out, ← hcode2] at HEH
        have HOS := hide hos
        have H14 := hide h14
        have HGL := hide hgl
        have HC2 := hide hcode2
        have HK := hide hK
        have HDN := hide hD
        clear hos h14 hvH hcode2 hgl hxl hxs hK hD hseq hlx
        go_wp2_with fail
        refine HEH.out.mono ?_
        rintro en V1 ⟨v2, rfl, ho2, f1, u2⟩
        obtain ⟨ae, ce, rfl⟩ := ho2.shape
        obtain ⟨el2, hel2⟩ : ∃ el2, el2 = (encR Hd).length := ⟨_, rfl⟩
        rw [← hel2]
        obtain ⟨Vd, hVd⟩ : ∃ Vd, Vd = V1.drew := ⟨_, rfl⟩
        have fd : Fr V1 Vd (fun _ => False) := by rw [hVd]; exact Fr.drew _ _
        have hosd := (HOS.out.q f1).q fd
        have d14 := bx_frz (bx_frz H14.out f1 (fun h => h)) fd (fun h => h)
        have hKd : Vd.heap[D]? = some (.deferred (some [])) := by
          have h1 := (Array.getElem?_eq_some_iff.1 HK.out).1
          have h2 := (f1.two fd).block D h1 (fun h => h)
          rw [h2]; exact HK.out
        have x14 := d14.cell
        have HLE : Hid (Calls Try.prog 6 #[.pointer (some ⟨tb, 0, none⟩)] Vd fun e w' => e = .returned (.int .i64 (gl : Int)) ∧ w' = Vd) := hide (by have h := hosd.ts.len; rw [HDX.out, ← HGL.out] at h; exact h)
        have HOSD := hide hosd
        have HD14 := hide d14
        have HKD := hide hKd
        have HO2 : Hid (OwnB Vd (.slice ae el2 ce) (encR Hd)) := hide (by rw [hel2]; exact ho2.fr fd (fun _ _ h => h))
        have HEL2 := hide hel2
        have HVD := hide hVd
        have hel2b : el2 ≤ 137363456 := by
          rw [hel2, encR]
          split
          · rename_i h; have := length_encL Hd h; have := HN2.out; omega
          · simp
        clear HEH ho2 f1 u2 fd hosd d14 hKd hel2 hVd x5
        have hglne : ((gl : Int) != (gl : Int)) = false := by simp
        have hgleq : ((gl : Int) == (gl : Int)) = true := by simp
        go_wp2_with fail
        refine wp_region_K (fun _ => true) (fun U : World => U = Vd) (by kernel_rfl) ?_
        rw [← HVD.out]
        have hS : (fun U : World => U = Vd) Vd := rfl
        refine wpAnyK_takeTo 0 (some 123) (.int .i64 (gl : Int)) [3, 4, 5, 6, 7, 8, 9, 10, 11, 12] rfl rfl (by kernel_rfl) (by kernel_rfl) (by kernel_rfl) (by kernel_rfl) (fun _ _ _ h => h) hS (Or.inl ⟨rfl, fun w1 hw1 => by have hw1 : w1 = Vd := hw1; subst hw1; go_simp⟩) ?_
        simp only [Act.put, List.setIfInBounds_toArray, List.set_cons_zero, List.set_cons_succ]
        refine wpAnyK_takeTo 1 (some 124) (.pointer (some ⟨tb, 0, none⟩)) [2, 3, 4, 5, 6, 7, 8, 9, 10, 11, 12] rfl rfl (by kernel_rfl) (by kernel_rfl) (by kernel_rfl) (by kernel_rfl) (fun _ _ _ h => h) hS (Or.inl ⟨rfl, fun w1 hw1 => by have hw1 : w1 = Vd := hw1; subst hw1; go_simp⟩) ?_
        simp only [Act.put, List.setIfInBounds_toArray, List.set_cons_zero, List.set_cons_succ]
        refine wpAnyK_one (i := 2) (by kernel_rfl) rfl rfl ?_
        refine wp_call_to (some 125) rfl 6 #[.pointer (some ⟨tb, 0, none⟩)] (by go_simp) HLE.out ?_
        rintro en Vx ⟨rfl, hww⟩
        rw [hww]
        clear hww
        refine ⟨_, rfl, fun _ => hS, ?_⟩
        simp only [Act.put, List.setIfInBounds_toArray, List.set_cons_zero, List.set_cons_succ]
        obtain ⟨Ve, hVe⟩ : ∃ Ve, Ve = Vd.drew := ⟨_, rfl⟩
        have fe : Fr Vd Ve (fun _ => False) := by rw [hVe]; exact Fr.drew _ _
        have hose := HOSD.out.q fe
        have e14 := bx_frz HD14.out fe (fun h => h)
        obtain ⟨WE, hWE⟩ : ∃ WE, WE = Ve.setCell ⟨b6, 0, none⟩ (.bool true) := ⟨_, rfl⟩
        have fE : Fr Ve WE (fun k => k = b6) := by rw [hWE]; exact Fr.setCell _ _ _
        have y6 : Boxed WE b6 4 (.bool true) := by rw [hWE]; exact bx_put hose.x6 _
        have hDb : ¬ D = b6 := fun e => by
          have h1 := HKD.out
          rw [e, HOSD.out.x6] at h1
          cases h1
        have hKE : WE.heap[D]? = some (.deferred (some [])) := by
          have h1 := (Array.getElem?_eq_some_iff.1 HKD.out).1
          have h2 := fe.block D h1 (fun h => h)
          have h3 := fE.block D (by have := fe.size; omega) hDb
          rw [h3, h2]; exact HKD.out
        have HFIN : Hid (∀ o', Boxed (WE.putObj D o') b6 4 (.bool true) ∧ Fr w (WE.putObj D o') (fun _ => False)) := hide (fun o' => by
          have fp := Fr.grown (grownBy_putObj' WE D o')
          refine ⟨bx_frz y6 fp (fun e => hDb (Option.some.inj e)), ((hose.fr.two (fE.mono (fun k _ e => by rw [e]; have h6 := HLT.out; omega))).two (fp.mono (fun k _ e => by have e := Option.some.inj e; have h1 := HDN.out; have h2 := HN0.out; have h3 := HBN.out; omega))).mono (fun k hk h => by have h0 := HB.out; omega)⟩)
        have HLE2 : Hid (Calls Try.prog 6 #[.pointer (some ⟨tb, 0, none⟩)] Ve fun e w' => e = .returned (.int .i64 (gl : Int)) ∧ w' = Ve) := hide (by have h := hose.ts.len; rw [HDX.out, ← HGL.out] at h; exact h)
        have xe14 := e14.cell
        have xe6 := hose.x6.cell
        have ze6 := hose.x6.frozen
        have HVE := hide hVe
        have HWE := hide hWE
        have HKE := hide hKE
        clear hVe fe hose e14 hWE fE y6 hDb hKE
        by_cases hc2 : code2 = 0
        · have hc2i : ((code2 : Int) != 0) = false := by rw [hc2]; rfl
          have HC20 := hide hc2
          clear hc2
          by_cases he0 : el2 = 0
          · have he0i : ((el2 : Int) == 0) = true := by rw [he0]; rfl
            clear he0
            refine wpAnyK_takeTo 3 (some 126) (.bool false) [4, 5, 6, 7, 8, 9, 10, 11, 12] rfl rfl (by kernel_rfl) (by kernel_rfl) (by kernel_rfl) (by kernel_rfl) (fun _ _ _ h => h) hS (Or.inl ⟨rfl, fun w1 hw1 => by have hw1 : w1 = Vd := hw1; subst hw1; go_simp⟩) ?_
            simp only [Act.put, List.setIfInBounds_toArray, List.set_cons_zero, List.set_cons_succ]
            refine wpAnyK_takeTo 4 (some 127) (.bool false) [5, 6, 7, 8, 9, 10, 11, 12] rfl rfl (by kernel_rfl) (by kernel_rfl) (by kernel_rfl) (by kernel_rfl) (fun _ _ _ h => h) hS (Or.inl ⟨rfl, fun w1 hw1 => by have hw1 : w1 = Vd := hw1; subst hw1; go_simp⟩) ?_
            simp only [Act.put, List.setIfInBounds_toArray, List.set_cons_zero, List.set_cons_succ]
            refine wpAnyK_takeTo 5 (some 128) (.int .i64 (code2 : Int)) [6, 7, 8, 9, 10, 11, 12] rfl rfl (by kernel_rfl) (by kernel_rfl) (by kernel_rfl) (by kernel_rfl) (fun _ _ _ h => h) hS (Or.inl ⟨rfl, fun w1 hw1 => by have hw1 : w1 = Vd := hw1; subst hw1; go_simp⟩) ?_
            simp only [Act.put, List.setIfInBounds_toArray, List.set_cons_zero, List.set_cons_succ]
            refine wpAnyK_takeTo 6 (some 129) (.bool false) [7, 8, 9, 10, 11, 12] rfl rfl (by kernel_rfl) (by kernel_rfl) (by kernel_rfl) (by kernel_rfl) (fun _ _ _ h => h) hS (Or.inl ⟨rfl, fun w1 hw1 => by have hw1 : w1 = Vd := hw1; subst hw1; go_simp⟩) ?_
            simp only [Act.put, List.setIfInBounds_toArray, List.set_cons_zero, List.set_cons_succ]
            refine wpAnyK_takeTo 7 (some 130) (.bool false) [8, 9, 10, 11, 12] rfl rfl (by kernel_rfl) (by kernel_rfl) (by kernel_rfl) (by kernel_rfl) (fun _ _ _ h => h) hS (Or.inl ⟨rfl, fun w1 hw1 => by have hw1 : w1 = Vd := hw1; subst hw1; go_simp⟩) ?_
            simp only [Act.put, List.setIfInBounds_toArray, List.set_cons_zero, List.set_cons_succ]
            refine wpAnyK_takeTo 8 (some 131) (.bool false) [9, 10, 11, 12] rfl rfl (by kernel_rfl) (by kernel_rfl) (by kernel_rfl) (by kernel_rfl) (fun _ _ _ h => h) hS (Or.inl ⟨rfl, fun w1 hw1 => by have hw1 : w1 = Vd := hw1; subst hw1; go_simp⟩) ?_
            simp only [Act.put, List.setIfInBounds_toArray, List.set_cons_zero, List.set_cons_succ]
            refine wpAnyK_takeTo 9 (some 132) (.slice ae el2 ce) [10, 11, 12] rfl rfl (by kernel_rfl) (by kernel_rfl) (by kernel_rfl) (by kernel_rfl) (fun _ _ _ h => h) hS (Or.inl ⟨rfl, fun w1 hw1 => by have hw1 : w1 = Vd := hw1; subst hw1; go_simp⟩) ?_
            simp only [Act.put, List.setIfInBounds_toArray, List.set_cons_zero, List.set_cons_succ]
            refine wpAnyK_takeTo 10 (some 133) (.int .i64 (el2 : Int)) [11, 12] rfl rfl (by kernel_rfl) (by kernel_rfl) (by kernel_rfl) (by kernel_rfl) (fun _ _ _ h => h) hS (Or.inl ⟨rfl, fun w1 hw1 => by have hw1 : w1 = Vd := hw1; subst hw1; go_simp⟩) ?_
            simp only [Act.put, List.setIfInBounds_toArray, List.set_cons_zero, List.set_cons_succ]
            refine wpAnyK_takeTo 11 (some 134) (.bool true) [12] rfl rfl (by kernel_rfl) (by kernel_rfl) (by kernel_rfl) (by kernel_rfl) (fun _ _ _ h => h) hS (Or.inl ⟨rfl, fun w1 hw1 => by have hw1 : w1 = Vd := hw1; subst hw1; go_simp⟩) ?_
            simp only [Act.put, List.setIfInBounds_toArray, List.set_cons_zero, List.set_cons_succ]
            refine wpAnyK_takeTo 12 (some 135) (.bool true) [] rfl rfl (by kernel_rfl) (by kernel_rfl) (by kernel_rfl) (by kernel_rfl) (fun _ _ _ h => h) hS (Or.inl ⟨rfl, fun w1 hw1 => by have hw1 : w1 = Vd := hw1; subst hw1; go_simp⟩) ?_
            simp only [Act.put, List.setIfInBounds_toArray, List.set_cons_zero, List.set_cons_succ]
            refine wpAnyK_done (by kernel_rfl) ?_ _
            clear hS
            go_wp2_with fail
            refine wp_region_K (fun z => decide (z < 4)) (fun U : World => U = Ve) (by kernel_rfl) ?_
            have HLE' := hide HLE2.out
            have hS : (fun U : World => U = Ve) Ve := rfl
            rw [← HVE.out]
            refine wpAnyK_takeTo 0 (some 136) (.int .i64 (gl : Int)) [3, 4] rfl rfl (by kernel_rfl) (by kernel_rfl) (by kernel_rfl) (by kernel_rfl) (fun _ _ _ h => h) hS (Or.inl ⟨rfl, fun w1 hw1 => by have hw1 : w1 = Ve := hw1; subst hw1; go_simp⟩) ?_
            simp only [Act.put, List.setIfInBounds_toArray, List.set_cons_zero, List.set_cons_succ]
            refine wpAnyK_takeTo 1 (some 137) (.pointer (some ⟨tb, 0, none⟩)) [2, 3, 4] rfl rfl (by kernel_rfl) (by kernel_rfl) (by kernel_rfl) (by kernel_rfl) (fun _ _ _ h => h) hS (Or.inl ⟨rfl, fun w1 hw1 => by have hw1 : w1 = Ve := hw1; subst hw1; go_simp⟩) ?_
            simp only [Act.put, List.setIfInBounds_toArray, List.set_cons_zero, List.set_cons_succ]
            refine wpAnyK_one (i := 2) (by kernel_rfl) rfl rfl ?_
            refine wp_call_to (some 138) rfl 6 #[.pointer (some ⟨tb, 0, none⟩)] (by go_simp) HLE2.out ?_
            rintro en Vx ⟨rfl, hww⟩
            rw [hww]
            clear hww
            refine ⟨_, rfl, fun _ => hS, ?_⟩
            simp only [Act.put, List.setIfInBounds_toArray, List.set_cons_zero, List.set_cons_succ]
            refine wpAnyK_takeTo 3 (some 139) (.bool true) [4] rfl rfl (by kernel_rfl) (by kernel_rfl) (by kernel_rfl) (by kernel_rfl) (fun _ _ _ h => h) hS (Or.inl ⟨rfl, fun w1 hw1 => by have hw1 : w1 = Ve := hw1; subst hw1; go_simp⟩) ?_
            simp only [Act.put, List.setIfInBounds_toArray, List.set_cons_zero, List.set_cons_succ]
            refine wpAnyK_one (i := 4) (by kernel_rfl) rfl rfl ?_
            go_simp
            rw [← HWE.out]
            refine wpAnyK_done (by kernel_rfl) ?_ _
            clear hS
            go_wp2_with fail
            refine ⟨by simp, .inl ⟨_, _, rfl, run_takeDeferred HKE.out, ?_⟩⟩
            exact ⟨_, results_bc rfl _ _ b6 (HFIN.out _).1 rfl, rfl, (HFIN.out _).2⟩
          · have he0i : ((el2 : Int) == 0) = false := by simp; omega
            have hepos : 0 < el2 := by omega
            clear he0
            refine wpAnyK_takeTo 3 (some 126) (.bool false) [4, 5, 6, 7, 8, 9, 10, 11, 12] rfl rfl (by kernel_rfl) (by kernel_rfl) (by kernel_rfl) (by kernel_rfl) (fun _ _ _ h => h) hS (Or.inl ⟨rfl, fun w1 hw1 => by have hw1 : w1 = Vd := hw1; subst hw1; go_simp⟩) ?_
            simp only [Act.put, List.setIfInBounds_toArray, List.set_cons_zero, List.set_cons_succ]
            refine wpAnyK_takeTo 4 (some 127) (.bool false) [5, 6, 7, 8, 9, 10, 11, 12] rfl rfl (by kernel_rfl) (by kernel_rfl) (by kernel_rfl) (by kernel_rfl) (fun _ _ _ h => h) hS (Or.inl ⟨rfl, fun w1 hw1 => by have hw1 : w1 = Vd := hw1; subst hw1; go_simp⟩) ?_
            simp only [Act.put, List.setIfInBounds_toArray, List.set_cons_zero, List.set_cons_succ]
            refine wpAnyK_takeTo 5 (some 128) (.int .i64 (code2 : Int)) [6, 7, 8, 9, 10, 11, 12] rfl rfl (by kernel_rfl) (by kernel_rfl) (by kernel_rfl) (by kernel_rfl) (fun _ _ _ h => h) hS (Or.inl ⟨rfl, fun w1 hw1 => by have hw1 : w1 = Vd := hw1; subst hw1; go_simp⟩) ?_
            simp only [Act.put, List.setIfInBounds_toArray, List.set_cons_zero, List.set_cons_succ]
            refine wpAnyK_takeTo 6 (some 129) (.bool false) [7, 8, 9, 10, 11, 12] rfl rfl (by kernel_rfl) (by kernel_rfl) (by kernel_rfl) (by kernel_rfl) (fun _ _ _ h => h) hS (Or.inl ⟨rfl, fun w1 hw1 => by have hw1 : w1 = Vd := hw1; subst hw1; go_simp⟩) ?_
            simp only [Act.put, List.setIfInBounds_toArray, List.set_cons_zero, List.set_cons_succ]
            refine wpAnyK_takeTo 7 (some 130) (.bool false) [8, 9, 10, 11, 12] rfl rfl (by kernel_rfl) (by kernel_rfl) (by kernel_rfl) (by kernel_rfl) (fun _ _ _ h => h) hS (Or.inl ⟨rfl, fun w1 hw1 => by have hw1 : w1 = Vd := hw1; subst hw1; go_simp⟩) ?_
            simp only [Act.put, List.setIfInBounds_toArray, List.set_cons_zero, List.set_cons_succ]
            refine wpAnyK_takeTo 8 (some 131) (.bool false) [9, 10, 11, 12] rfl rfl (by kernel_rfl) (by kernel_rfl) (by kernel_rfl) (by kernel_rfl) (fun _ _ _ h => h) hS (Or.inl ⟨rfl, fun w1 hw1 => by have hw1 : w1 = Vd := hw1; subst hw1; go_simp⟩) ?_
            simp only [Act.put, List.setIfInBounds_toArray, List.set_cons_zero, List.set_cons_succ]
            refine wpAnyK_takeTo 9 (some 132) (.slice ae el2 ce) [10, 11, 12] rfl rfl (by kernel_rfl) (by kernel_rfl) (by kernel_rfl) (by kernel_rfl) (fun _ _ _ h => h) hS (Or.inl ⟨rfl, fun w1 hw1 => by have hw1 : w1 = Vd := hw1; subst hw1; go_simp⟩) ?_
            simp only [Act.put, List.setIfInBounds_toArray, List.set_cons_zero, List.set_cons_succ]
            refine wpAnyK_takeTo 10 (some 133) (.int .i64 (el2 : Int)) [11, 12] rfl rfl (by kernel_rfl) (by kernel_rfl) (by kernel_rfl) (by kernel_rfl) (fun _ _ _ h => h) hS (Or.inl ⟨rfl, fun w1 hw1 => by have hw1 : w1 = Vd := hw1; subst hw1; go_simp⟩) ?_
            simp only [Act.put, List.setIfInBounds_toArray, List.set_cons_zero, List.set_cons_succ]
            refine wpAnyK_takeTo 11 (some 134) (.bool false) [12] rfl rfl (by kernel_rfl) (by kernel_rfl) (by kernel_rfl) (by kernel_rfl) (fun _ _ _ h => h) hS (Or.inl ⟨rfl, fun w1 hw1 => by have hw1 : w1 = Vd := hw1; subst hw1; go_simp⟩) ?_
            simp only [Act.put, List.setIfInBounds_toArray, List.set_cons_zero, List.set_cons_succ]
            refine wpAnyK_takeTo 12 (some 135) (.bool false) [] rfl rfl (by kernel_rfl) (by kernel_rfl) (by kernel_rfl) (by kernel_rfl) (fun _ _ _ h => h) hS (Or.inl ⟨rfl, fun w1 hw1 => by have hw1 : w1 = Vd := hw1; subst hw1; go_simp⟩) ?_
            simp only [Act.put, List.setIfInBounds_toArray, List.set_cons_zero, List.set_cons_succ]
            refine wpAnyK_done (by kernel_rfl) ?_ _
            clear hS xe14 xe6 ze6 HLE2 HVE HWE HKE HFIN HLE
            have hckH : checkL Hd = 0 := by rw [← HC2.out]; exact HC20.out
            have hO2 := HO2.out
            rw [encR, if_pos hckH] at hO2
            have hel3 : el2 = (encL Hd).length := by rw [HEL2.out, encR, if_pos hckH]
            obtain ⟨hdk, hhdk⟩ : ∃ s, s = strOf (encL Hd) := ⟨_, rfl⟩
            obtain ⟨b21, hb21⟩ : ∃ b21, b21 = Vd.heap.size := ⟨_, rfl⟩
            obtain ⟨VA, hVA⟩ : ∃ VA, VA = Vd.alloc (.cells #[.int .i64 0] 3) := ⟨_, rfl⟩
            obtain ⟨VB, hVB⟩ : ∃ VB, VB = VA.setCell ⟨b21, 0, none⟩ (.int .i64 0) := ⟨_, rfl⟩
            have fA : Fr Vd VA (fun _ => False) := by rw [hVA]; exact Fr.alloc Vd _ _
            have BA : Boxed VA b21 3 (.int .i64 0) := by rw [hVA, hb21]; exact Boxed.new Vd 3 _
            have fB : Fr Vd VB (fun _ => False) := by
              rw [hVB]
              exact (fA.trans (Fr.setCell VA ⟨b21, 0, none⟩ _)).mono (fun k hk h => h.elim id (fun h => by have h : k = b21 := h; omega))
            have BB : Boxed VB b21 3 (.int .i64 0) := by rw [hVB]; exact bx_put BA _
            have hosB := HOSD.out.q fB
            have hOB := (hO2.fr fB (fun _ _ h => h)).bi
            have hcv := run_string VB ae _ ce _ hOB.bin
            rw [← hhdk] at hcv
            have hn21 : ¬ TX tb dx b21 ∧ b21 ≠ base ∧ b21 ≠ b5 ∧ b21 ≠ b6 ∧ base ≤ b21 := by
              have q0 := HOSD.out.hb
              have q4 := HOSD.out.x4.lt
              have q5 := HOSD.out.x5.lt
              have q6 := HOSD.out.x6.lt
              exact ⟨fun h => by have := HOSD.out.ts.lt _ h; omega, by omega, by omega, by omega, by omega⟩
            have hkB : VB.heap[D]? = some (.deferred (some [])) := (fB.block D (Array.getElem?_eq_some_iff.1 HKD.out).1 (fun h => h)).trans HKD.out
            have hM : M2 base o 1 w tb dx base b5 b6 (.slice a1 n1 c1) (.slice a2 n2 c2) b21 [D] 0 VB := ⟨hosB, BB, fun D' hD' => by rw [List.mem_singleton] at hD'; rw [hD']; exact hkB⟩
            have hsz : ¬ 9223372036854775807 < hdk.size + 1 := by
              have : hdk.size = el2 := by rw [hhdk, hel3]; simp [strOf, ByteArray.size]
              omega
            have HRG2 := hide (hosB.ts.range hdk (hdk ++ ⟨#[255]⟩) (by omega) (by omega))
            have zA := BA.frozen
            have xA := BA.cell
            have HM := hide hM
            have HN21 := hide hn21
            have HHD := hide hhdk
            have HCKH := hide hckH
            have HHA := hide hVA
            have HHB := hide hVB
            have HB21 := hide hb21
            clear hckH hO2 hel3 hhdk hb21 hVA hVB fA BA fB BB hosB hOB hn21 hkB hM HOSD HD14 HKD HO2 HEL2
            go_wp2_with (first | (rw [← HHA.out, ← HB21.out]; clear HHA) | (rw [← HHB.out]; clear HHB))
            refine HRG2.out.mono ?_
            rintro en W3b ⟨R2, A2, B2, hh2, lo2, rfl, t3b, hsubb, rR2, rA2, rB2, g3b, hntb⟩
            clear xA zA hcv
            go_wp2_with fail
            obtain ⟨dxb, hdxb⟩ : ∃ dx', dx' = dx.old := ⟨_, rfl⟩
            obtain ⟨Gb, hGb⟩ : ∃ G', G' = rng hdk (hdk ++ ⟨#[255]⟩) dxb.F := ⟨_, rfl⟩
            rw [← hdxb] at t3b hsubb rR2
            have hFxb : dxb.F = G := by rw [hdxb]; exact HDX.out
            have hseq := range_stops hsubb t3b.srt ho64 hGb rR2 rA2 rB2 (3 - 1)
            obtain ⟨X0b, hX0b⟩ : ∃ X0, X0 = dxb.X := ⟨_, rfl⟩
            rw [← hX0b] at hseq
            obtain ⟨n0b, hn0b⟩ : ∃ n0, n0 = W3b.heap.size := ⟨_, rfl⟩
            have hTXnb : ∀ k, TX tb dxb k → k < n0b := fun k hk => by rw [hn0b]; exact t3b.lt k hk
            have hlx : ∀ k, X0b k → k < n0b := fun k hk => hTXnb k (.inr (by rw [← hX0b]; exact hk))
            have hTXeb : ∀ k, TX tb dxb k ↔ TX tb dx k := fun k => by rw [hdxb]; exact Iff.rfl
            have hMb : M2 base o (1 + 1) w tb dxb base b5 b6 (.slice a1 n1 c1) (.slice a2 n2 c2) b21 [D] 0 W3b := ⟨HM.out.os.step t3b (fun k hk => .inl ((hTXeb k).1 hk)) (g3b.mono (fun k _ h => .inl h)), bx_frz HM.out.cn g3b (fun e => HN21.out.1 (.inl e)), fun D' hD' => (g3b.block D' (Array.getElem?_eq_some_iff.1 (HM.out.ds D' hD')).1 (fun e => def_ne (HM.out.ds D' hD') (by obtain ⟨_, ht, _, _⟩ := HM.out.os.ts; exact ⟨_, ht.box.box, rfl⟩) e)).trans (HM.out.ds D' hD')⟩
            have hbnb : base ≤ n0b := by have := hMb.os.hb; omega
            have hDnb : ∀ D' ∈ ([D] : List Nat), D' < n0b := fun D' hD' => by rw [hn0b]; exact (Array.getElem?_eq_some_iff.1 (hMb.ds D' hD')).1
            have HN21b : Hid (¬ TX tb dxb b21 ∧ b21 ≠ base ∧ b21 ≠ b5 ∧ b21 ≠ b6 ∧ base ≤ b21) := hide ⟨fun h => HN21.out.1 ((hTXeb _).1 h), HN21.out.2⟩
            have HXXb : Hid (¬ X0b b21) := hide (fun h => HN21b.out.1 (.inr (by rw [← hX0b]; exact h)))
            have HFXb := hide hFxb
            have HGb := hide hGb
            have HSTb := hide hMb
            have HBNb := hide hbnb
            have HDNNb := hide hDnb
            have HTXNb := hide hTXnb
            have HN0b := hide hn0b
            have hGlb : Gb.length ≤ 1048576 := by rw [hGb, hFxb]; have := rng_le hdk (hdk ++ ⟨#[255]⟩) G; omega
            clear hdxb hGb t3b hsubb rR2 rA2 rB2 g3b hntb hFxb hX0b hn0b hTXnb hTXeb hMb hbnb hDnb HRG2
            refine (wpIn_wide (n := 3)).1 ?_
            refine' wpIn_rangeFunc_ownG (w0 := W3b) rfl (by omega) (gf := 19) (lb := #[.pointer (some ⟨R2, 0, none⟩), .pointer (some ⟨A2, 0, none⟩), .pointer (some ⟨B2, 0, none⟩)]) rfl trivial (enters_of Try.func19 (by kernel_rfl) rfl)
              hseq (fun h k => KX.trans h k) (fun W l o o' hl _ _ _ => (Fr.grown (grownBy_putObj' W l o')).mono (fun k _ e hx => by have e := Option.some.inj e; have := hlx k hx; have := HN0b.out; omega)) (RowKit.Below.refl _ _) (fun _ => rfl)
              (fun pre W => M2 base o (1 + 1) w tb dxb base b5 b6 (.slice a1 n1 c1) (.slice a2 n2 c2) b21 [D] ((pre.length : Nat) : Int) W)
              (fun c pre W => False)
              (fun s A B row h hg hr => M2.off h (by rw [← HN0b.out]; exact HBNb.out) (by rw [← HN0b.out]; exact HTXNb.out) (by rw [← HN0b.out]; exact HDNNb.out) (Fr.grown hg) hr)
              (fun c s W W' row hs hg hr => hs.elim)
              HSTb.out _ ?assign ?body ?done ?stop
            case assign =>
              intro l x W K hK
              gi_wp2
              exact hK
            case stop =>
              rintro D c pre W hD hpre hno hK
              exact hno.elim
            case body =>
              rintro l pre x W hm hlt
              obtain ⟨pn, hpn⟩ : ∃ pn, pn = pre.length := ⟨_, rfl⟩
              rw [← hpn] at hm
              have hpb : pn < 1048576 := by omega
              obtain ⟨p1, hp1⟩ : ∃ p1, p1 = pn + 1 := ⟨_, rfl⟩
              have hpi : (pn : Int) + 1 = (p1 : Int) := by omega
              have hp1b : p1 ≤ 1048577 := by omega
              obtain ⟨V2, hV2⟩ : ∃ V2, V2 = W.setCell ⟨b21, 0, none⟩ (.int .i64 (p1 : Int)) := ⟨_, rfl⟩
              obtain ⟨hm2, f2⟩ := m2_set hm HN21b.out hV2
              have x21 := hm.cn.cell
              have z21 := hm.cn.frozen
              have KF : Hid (KeepsFrom W3b.heap.size W V2) := hide (keeps_fr f2 (fun k hk => by rw [show k = b21 from hk]; exact bx_isc hm.cn))
              have KXX : Hid (KX X0b W V2) := hide (f2.mono (fun k _ hk hx => HXXb.out (by rw [← show k = b21 from hk]; exact hx)))
              have HM2' : Hid (M2 base o (1 + 1) w tb dxb base b5 b6 (.slice a1 n1 c1) (.slice a2 n2 c2) b21 [D] (((pre ++ [x]).length : Nat) : Int) V2) := hide (by rw [List.length_append, ← hpn]; rw [show (pn + [x].length) = p1 by rw [hp1]; rfl]; exact hm2)
              have HHV := hide hV2
              clear hm hm2 f2 hV2 hpn hp1 hlt hseq hlx
              gi_wp2_with (rw [← HHV.out]; clear HHV)
              exact ⟨KF.out, KXX.out, HM2'.out⟩
            case done =>
              rintro D2 xs W hD2 hxs hm hK2
              obtain ⟨g2, hg2⟩ : ∃ g2, g2 = Gb.length := ⟨_, rfl⟩
              have hxl : xs.length = g2 := by have h := congrArg List.length hxs; rw [List.length_map] at h; rw [hg2]; exact h
              rw [hxl] at hm
              have hg2b : g2 ≤ 1048576 := by omega
              have hm2 : M2 base o (1 + 1) w tb dxb base b5 b6 (.slice a1 n1 c1) (.slice a2 n2 c2) b21 [D2, D] (g2 : Int) W := ⟨hm.os, hm.cn, fun D' hD' => by
                rcases List.mem_cons.1 hD' with h | h
                · rw [h]; exact hK2
                · exact hm.ds D' h⟩
              have HM3 := hide hm2
              have HG2 : Hid (g2 = (rng hdk (hdk ++ ⟨#[255]⟩) G).length) := hide (by rw [hg2, HGb.out, HFXb.out])
              have HRG3 := hide (hm2.os.ts.range ⟨#[]⟩ ⟨#[]⟩ (by omega) (by omega))
              have HD2N : Hid (W3b.heap.size ≤ D2) := hide hD2
              clear hm hm2 hg2 hxl hxs hK2 hD2 hseq hlx HSTb
              go_wp2_with fail
              refine HRG3.out.mono ?_
              rintro en W3c ⟨R3, A3, B3, hh3, lo3, rfl, t3c, hsubc, rR3, rA3, rB3, g3c, hntc⟩
              go_wp2_with fail
              obtain ⟨dxc, hdxc⟩ : ∃ dx', dx' = dxb.old := ⟨_, rfl⟩
              obtain ⟨Gc, hGc⟩ : ∃ G', G' = rng ⟨#[]⟩ ⟨#[]⟩ dxc.F := ⟨_, rfl⟩
              rw [← hdxc] at t3c hsubc rR3
              have hFxc : dxc.F = G := by rw [hdxc]; exact HFXb.out
              have hseq := range_stops hsubc t3c.srt ho64 hGc rR3 rA3 rB3 (3 - 1)
              obtain ⟨X0c, hX0c⟩ : ∃ X0, X0 = dxc.X := ⟨_, rfl⟩
              rw [← hX0c] at hseq
              obtain ⟨n0c, hn0c⟩ : ∃ n0, n0 = W3c.heap.size := ⟨_, rfl⟩
              have hTXnc : ∀ k, TX tb dxc k → k < n0c := fun k hk => by rw [hn0c]; exact t3c.lt k hk
              have hlx : ∀ k, X0c k → k < n0c := fun k hk => hTXnc k (.inr (by rw [← hX0c]; exact hk))
              have hTXec : ∀ k, TX tb dxc k ↔ TX tb dxb k := fun k => by rw [hdxc]; exact Iff.rfl
              have hMc : M2 base o (1 + 1 + 1) w tb dxc base b5 b6 (.slice a1 n1 c1) (.slice a2 n2 c2) b21 [D2, D] (g2 : Int) W3c := ⟨HM3.out.os.step t3c (fun k hk => .inl ((hTXec k).1 hk)) (g3c.mono (fun k _ h => .inl h)), bx_frz HM3.out.cn g3c (fun e => HN21b.out.1 (.inl e)), fun D' hD' => (g3c.block D' (Array.getElem?_eq_some_iff.1 (HM3.out.ds D' hD')).1 (fun e => def_ne (HM3.out.ds D' hD') (by obtain ⟨_, ht, _, _⟩ := HM3.out.os.ts; exact ⟨_, ht.box.box, rfl⟩) e)).trans (HM3.out.ds D' hD')⟩
              have hbnc : base ≤ n0c := by have := hMc.os.hb; omega
              have hDnc : ∀ D' ∈ ([D2, D] : List Nat), D' < n0c := fun D' hD' => by rw [hn0c]; exact (Array.getElem?_eq_some_iff.1 (hMc.ds D' hD')).1
              have HN21c : Hid (¬ TX tb dxc b21 ∧ b21 ≠ base ∧ b21 ≠ b5 ∧ b21 ≠ b6 ∧ base ≤ b21) := hide ⟨fun h => HN21b.out.1 ((hTXec _).1 h), HN21b.out.2⟩
              have HXXc : Hid (¬ X0c b21) := hide (fun h => HN21c.out.1 (.inr (by rw [← hX0c]; exact h)))
              have HFXc := hide hFxc
              have HGc := hide hGc
              have HSTc := hide hMc
              have HBNc := hide hbnc
              have HDNNc := hide hDnc
              have HTXNc := hide hTXnc
              have HN0c := hide hn0c
              have hGlc : Gc.length ≤ 1048576 := by rw [hGc, hFxc]; have := rng_le ⟨#[]⟩ ⟨#[]⟩ G; omega
              clear hdxc hGc t3c hsubc rR3 rA3 rB3 g3c hntc hFxc hX0c hn0c hTXnc hTXec hMc hbnc hDnc HRG3
              refine (wpIn_wide (n := 3)).1 ?_
              refine' wpIn_rangeFunc_ownG (w0 := W3c) rfl (by omega) (gf := 19) (lb := #[.pointer (some ⟨R3, 0, none⟩), .pointer (some ⟨A3, 0, none⟩), .pointer (some ⟨B3, 0, none⟩)]) rfl trivial (enters_of Try.func19 (by kernel_rfl) rfl)
                hseq (fun h k => KX.trans h k) (fun W l o o' hl _ _ _ => (Fr.grown (grownBy_putObj' W l o')).mono (fun k _ e hx => by have e := Option.some.inj e; have := hlx k hx; have := HN0c.out; omega)) (RowKit.Below.refl _ _) (fun _ => rfl)
                (fun pre W => M2 base o (1 + 1 + 1) w tb dxc base b5 b6 (.slice a1 n1 c1) (.slice a2 n2 c2) b21 [D2, D] ((g2 : Int) - ((cntP hdk (hdk ++ ⟨#[255]⟩) pre : Nat) : Int)) W)
                (fun c pre W => False)
                (fun s A B row h hg hr => M2.off h (by rw [← HN0c.out]; exact HBNc.out) (by rw [← HN0c.out]; exact HTXNc.out) (by rw [← HN0c.out]; exact HDNNc.out) (Fr.grown hg) hr)
                (fun c s W W' row hs hg hr => hs.elim)
                (by rw [show ((g2 : Int) - ((cntP hdk (hdk ++ ⟨#[255]⟩) ([] : List (In Gc)) : Nat) : Int)) = (g2 : Int) by simp [cntP]]; exact HSTc.out) _ ?assign ?body ?done ?stop
              case assign =>
                intro l x W K hK
                gi_wp2
                exact hK
              case stop =>
                rintro D c pre W hD hpre hno hK
                exact hno.elim
              case body =>
                rintro l pre ⟨⟨xk, xv⟩, hxG⟩ W hm hlt
                have hxG2 : (⟨xk, xv⟩ : It) ∈ G := by have h := hxG; rw [HGc.out, rng_all, HFXc.out] at h; exact h
                obtain ⟨j, R, hj, hRj, hck, hkey⟩ := HRWG.out _ hxG2
                dsimp only at hj hkey
                subst hj
                subst hkey
                obtain ⟨hRl, hRw⟩ : R.length ≤ 1048576 ∧ Wf R := by
                  obtain ⟨_, _, _, _, _, _, _, h1, h2⟩ := HI1.out j R hRj
                  exact ⟨h1, h2⟩
                obtain ⟨k1, k2, k3⟩ := decCode_enc hck hRw
                obtain ⟨c3, V1, hcv, bi1, hc3, f1⟩ := conv_any W (strOf (encL R))
                rw [strOf_data] at bi1
                obtain ⟨g1, hg1⟩ : ∃ g1, g1 = W.heap.size := ⟨_, rfl⟩
                obtain ⟨el, hel⟩ : ∃ el, el = (strOf (encL R)).size := ⟨_, rfl⟩
                rw [← hg1, ← hel] at hcv bi1
                rw [← hel] at hc3
                have hel2 : el = (encL R).length := by rw [hel]; simp [strOf, ByteArray.size]
                have helb : el ≤ 268435456 := by have := length_encL R hck; omega
                have HD : Hid (Calls Try.prog 9 #[.slice (some ⟨g1, 0, none⟩) el c3] V1 fun e w' => ∃ v', e = .returned (.tuple #[v', .agg #[.int .i64 0, .int .i64 0]]) ∧ OwnV w' v' R ∧ Fr V1 w' (fun _ => False) ∧ ∀ q, v'.ownBlock = some q → V1.heap.size ≤ q) := hide (by
                  have h := decode_any (some ⟨g1, 0, none⟩) el c3 (encL R) V1 bi1 helb hc3
                  rw [k1, k2, k3] at h
                  exact h)
                obtain ⟨cp, hcp⟩ : ∃ cp, cp = cntP hdk (hdk ++ ⟨#[255]⟩) pre := ⟨_, rfl⟩
                have hcpb : cp ≤ 1048576 := by rw [hcp]; have := cntP_le hdk (hdk ++ ⟨#[255]⟩) pre; omega
                rw [← hcp] at hm
                have hpf : pfx hdk (hdk ++ ⟨#[255]⟩) (strOf (encL R)) = true ↔ Hd <+: R := by
                  rw [HHD.out, strOf_snoc]
                  exact in_range HCKH.out hck HW2.out hRw
                have hsn := cntP_snoc hdk (hdk ++ ⟨#[255]⟩) pre ⟨⟨strOf (encL R), (j : Int)⟩, hxG⟩
                rw [← hcp] at hsn
                dsimp only at hsn
                have HM := hide hm
                have HRL := hide hRl
                have HRWF := hide hRw
                have HCK := hide hck
                have HF1 := hide f1
                have HG1 := hide hg1
                have HPF := hide hpf
                have HSN := hide hsn
                have HCP := hide hcp
                clear hm hRl hRw hck f1 bi1 hc3 hel hel2 helb k1 k2 k3 hRj hlt hseq hlx hg1 hpf hsn hcp hxG2
                gi_wp2_with fail
                refine ⟨trivial, CallsIn.inRound l (callsIn_wide.2 (HD.out.mono ?_))⟩
                rintro en V2 ⟨v2, rfl, ho2, f2, u2⟩
                obtain ⟨av, cv, rfl⟩ := ho2.shape
                obtain ⟨b18, hb18⟩ : ∃ b18, b18 = V2.heap.size := ⟨_, rfl⟩
                obtain ⟨V3, hV3⟩ : ∃ V3, V3 = V2.alloc (.cells #[.int .i64 0, .int .i64 0] 37) := ⟨_, rfl⟩
                obtain ⟨V4, hV4⟩ : ∃ V4, V4 = (V3.setCell ⟨b18, 0, none⟩ (.int .i64 0)).setCell ⟨b18, 1, none⟩ (.int .i64 0) := ⟨_, rfl⟩
                have f3 : Fr V2 V3 (fun _ => False) := by rw [hV3]; exact Fr.alloc V2 _ _
                have c18 : V3.heap[b18]? = some (.cells #[.int .i64 0, .int .i64 0] 37 (0, 0)) := by rw [hV3, hb18]; exact heap_alloc_new V2 _
                have f34 : Fr V3 V4 (fun k => k = b18) := by rw [hV4]; exact ((Fr.setCell V3 ⟨b18, 0, none⟩ _).trans (Fr.setCell _ ⟨b18, 1, none⟩ _)).mono (fun k _ h => by simpa using h)
                have F24 : Fr V2 V4 (fun _ => False) := (f3.trans f34).mono (fun k hk h => h.elim id (fun h => by omega))
                have FW4 : Fr W V4 (fun _ => False) := (HF1.out.two f2).two F24
                have y0 : V3.cell? ⟨b18, 0, none⟩ = some (.int .i64 0) := (cell_of_row _ _ _ _ _ _ c18).trans rfl
                have y1 : V3.cell? ⟨b18, 1, none⟩ = some (.int .i64 0) := (cell_of_row _ _ _ _ _ _ c18).trans rfl
                have yz0 : V3.frozen? ⟨b18, 0, none⟩ = false := by simp [World.frozen?, c18]
                have yz1 : V3.frozen? ⟨b18, 1, none⟩ = false := by simp [World.frozen?, c18]
                obtain ⟨rn, hrn⟩ : ∃ rn, rn = R.length := ⟨_, rfl⟩
                have hrnb : rn ≤ 1048576 := by rw [hrn]; exact HRL.out
                have hO4 := ho2.fr F24 (fun _ _ h => h)
                rw [← hrn]
                have HM4 := hide (HM.out.q FW4)
                have HO4 := hide hO4
                have HFW4 := hide FW4
                have HRN := hide hrn
                have HH3 := hide hV3
                have HH4 := hide hV4
                have HB18 := hide hb18
                clear HD ho2 f2 u2 hb18 hV3 hV4 f3 c18 f34 F24 FW4 hO4 hrn hcv
                gi_wp2_with (first | (rw [← HH3.out, ← HB18.out]; clear HH3) | (rw [← HH4.out]; clear HH4))
                clear y0 y1 yz0 yz1
                refine wp_region_round (fun _ => true) (fun U : World => U.cell? ⟨b5, 0, none⟩ = some (.slice a2 n2 c2)) (by kernel_rfl) (by kernel_rfl) (by rintro ⟨_, _, h⟩; exact h) ?_
                obtain ⟨V5, hV5⟩ : ∃ V5, V5 = V4.drew := ⟨_, rfl⟩
                have f45 : Fr V4 V5 (fun _ => False) := by rw [hV5]; exact Fr.drew _ _
                rw [← hV5]
                clear hV5
                have hM5 := HM4.out.q f45
                have hS : (fun U : World => U.cell? ⟨b5, 0, none⟩ = some (.slice a2 n2 c2)) V5 := hM5.os.x5.cell
                have HO5 := hide (HO4.out.fr f45 (fun _ _ h => h))
                have HM5 := hide hM5
                have HFW5 := hide (HFW4.out.two f45)
                clear hM5 f45
                refine wpAnyK_takeTo 0 (some 161) (.slice av rn cv) [1, 4, 5, 6, 7, 8, 9, 10, 11, 12] rfl rfl (by kernel_rfl) (by kernel_rfl) (by kernel_rfl) (by kernel_rfl) (fun _ _ _ h => h) hS (Or.inl ⟨rfl, fun w1 hw1 => by have z5 : w1.cell? ⟨b5, 0, none⟩ = some (.slice a2 n2 c2) := hw1; go_simp⟩) ?_
                simp only [Act.put, List.setIfInBounds_toArray, List.set_cons_zero, List.set_cons_succ]
                refine wpAnyK_takeTo 1 (some 162) (.int .i64 (rn : Int)) [4, 5, 6, 7, 8, 9, 10, 11, 12] rfl rfl (by kernel_rfl) (by kernel_rfl) (by kernel_rfl) (by kernel_rfl) (fun _ _ _ h => h) hS (Or.inl ⟨rfl, fun w1 hw1 => by have z5 : w1.cell? ⟨b5, 0, none⟩ = some (.slice a2 n2 c2) := hw1; go_simp⟩) ?_
                simp only [Act.put, List.setIfInBounds_toArray, List.set_cons_zero, List.set_cons_succ]
                refine wpAnyK_takeTo 2 (some 163) (.slice a2 n2 c2) [3, 4, 5, 6, 7, 8, 9, 10, 11, 12] rfl rfl (by kernel_rfl) (by kernel_rfl) (by kernel_rfl) (by kernel_rfl) (fun _ _ _ h => h) hS (Or.inl ⟨rfl, fun w1 hw1 => by have z5 : w1.cell? ⟨b5, 0, none⟩ = some (.slice a2 n2 c2) := hw1; go_simp⟩) ?_
                simp only [Act.put, List.setIfInBounds_toArray, List.set_cons_zero, List.set_cons_succ]
                refine wpAnyK_takeTo 3 (some 164) (.int .i64 (n2 : Int)) [4, 5, 6, 7, 8, 9, 10, 11, 12] rfl rfl (by kernel_rfl) (by kernel_rfl) (by kernel_rfl) (by kernel_rfl) (fun _ _ _ h => h) hS (Or.inl ⟨rfl, fun w1 hw1 => by have z5 : w1.cell? ⟨b5, 0, none⟩ = some (.slice a2 n2 c2) := hw1; go_simp⟩) ?_
                simp only [Act.put, List.setIfInBounds_toArray, List.set_cons_zero, List.set_cons_succ]
                by_cases hle : n2 ≤ rn
                · have hlei : (n2 : Int) ≤ (rn : Int) := by omega
                  have hcvl : rn ≤ cv := by
                    rcases HO5.out.2 with ⟨e1, e2⟩ | ⟨gx, cap, cr, e1, _, _, h1, _⟩
                    · rw [HRN.out, e2]; exact Nat.zero_le _
                    · injection e1 with _ _ e3
                      rw [HRN.out, e3]; exact h1
                  have hcvn : ¬ cv < n2 := by omega
                  refine wpAnyK_takeTo 4 (some 165) (.bool true) [5, 6, 7, 8, 9, 10, 11, 12] rfl rfl (by kernel_rfl) (by kernel_rfl) (by kernel_rfl) (by kernel_rfl) (fun _ _ _ h => h) hS (Or.inl ⟨rfl, fun w1 hw1 => by have z5 : w1.cell? ⟨b5, 0, none⟩ = some (.slice a2 n2 c2) := hw1; go_simp⟩) ?_
                  simp only [Act.put, List.setIfInBounds_toArray, List.set_cons_zero, List.set_cons_succ]
                  refine wpAnyK_takeTo 5 (some 166) (.bool true) [6, 7, 8, 9, 10, 11, 12] rfl rfl (by kernel_rfl) (by kernel_rfl) (by kernel_rfl) (by kernel_rfl) (fun _ _ _ h => h) hS (Or.inl ⟨rfl, fun w1 hw1 => by have z5 : w1.cell? ⟨b5, 0, none⟩ = some (.slice a2 n2 c2) := hw1; go_simp⟩) ?_
                  simp only [Act.put, List.setIfInBounds_toArray, List.set_cons_zero, List.set_cons_succ]
                  refine wpAnyK_takeTo 6 (some 167) (.slice av rn cv) [9, 11, 12] rfl rfl (by kernel_rfl) (by kernel_rfl) (by kernel_rfl) (by kernel_rfl) (fun _ _ _ h => h) hS (Or.inl ⟨rfl, fun w1 hw1 => by have z5 : w1.cell? ⟨b5, 0, none⟩ = some (.slice a2 n2 c2) := hw1; go_simp⟩) ?_
                  simp only [Act.put, List.setIfInBounds_toArray, List.set_cons_zero, List.set_cons_succ]
                  refine wpAnyK_takeTo 7 (some 168) (.slice a2 n2 c2) [8, 9, 11, 12] rfl rfl (by kernel_rfl) (by kernel_rfl) (by kernel_rfl) (by kernel_rfl) (fun _ _ _ h => h) hS (Or.inl ⟨rfl, fun w1 hw1 => by have z5 : w1.cell? ⟨b5, 0, none⟩ = some (.slice a2 n2 c2) := hw1; go_simp⟩) ?_
                  simp only [Act.put, List.setIfInBounds_toArray, List.set_cons_zero, List.set_cons_succ]
                  refine wpAnyK_takeTo 8 (some 169) (.int .i64 (n2 : Int)) [9, 11, 12] rfl rfl (by kernel_rfl) (by kernel_rfl) (by kernel_rfl) (by kernel_rfl) (fun _ _ _ h => h) hS (Or.inl ⟨rfl, fun w1 hw1 => by have z5 : w1.cell? ⟨b5, 0, none⟩ = some (.slice a2 n2 c2) := hw1; go_simp⟩) ?_
                  simp only [Act.put, List.setIfInBounds_toArray, List.set_cons_zero, List.set_cons_succ]
                  refine wpAnyK_takeTo 9 (some 170) (.slice av n2 cv) [11, 12] rfl rfl (by kernel_rfl) (by kernel_rfl) (by kernel_rfl) (by kernel_rfl) (fun _ _ _ h => h) hS (Or.inl ⟨rfl, fun w1 hw1 => by have z5 : w1.cell? ⟨b5, 0, none⟩ = some (.slice a2 n2 c2) := hw1; go_simp⟩) ?_
                  simp only [Act.put, List.setIfInBounds_toArray, List.set_cons_zero, List.set_cons_succ]
                  refine wpAnyK_takeTo 10 (some 171) (.slice a2 n2 c2) [11, 12] rfl rfl (by kernel_rfl) (by kernel_rfl) (by kernel_rfl) (by kernel_rfl) (fun _ _ _ h => h) hS (Or.inl ⟨rfl, fun w1 hw1 => by have z5 : w1.cell? ⟨b5, 0, none⟩ = some (.slice a2 n2 c2) := hw1; go_simp⟩) ?_
                  simp only [Act.put, List.setIfInBounds_toArray, List.set_cons_zero, List.set_cons_succ]
                  have hsl : Vals V5 av (R.take n2) := by
                    rcases HO5.out.vals with h | ⟨g', off', e', h⟩
                    · exact .inl (by rw [h]; simp)
                    · exact .inr ⟨g', off', e', fun q v hv => h q v (by
                        have hq : q < n2 := by have := (List.getElem?_eq_some_iff.1 hv).1; simp at this; omega
                        rw [List.getElem?_take_of_lt hq] at hv; exact hv)⟩
                  have htl : (R.take n2).length = n2 := by rw [List.length_take, ← HRN.out]; omega
                  have hvH : Vals V5 a2 Hd := HI2.out.old (HM5.out.os.fr.mono (fun k _ h => by rw [← HB.out]; exact h))
                  obtain ⟨bb, hbb⟩ : ∃ bb, bb = decide ((R.take n2).length = Hd.length ∧ cmpL (R.take n2) Hd = 0) := ⟨_, rfl⟩
                  have HSM : Hid (Calls Try.prog 10 #[.slice av n2 cv, .slice a2 n2 c2] V5 fun e w' => e = .returned (.bool bb) ∧ Fr V5 w' (fun _ => False)) := hide (by
                    have h := same_gen av a2 cv c2 (R.take n2) Hd V5 hsl hvH (by rw [htl]; omega) (by rw [HN2.out]; omega)
                    rw [← hbb, htl, HN2.out] at h
                    exact h)
                  have hbb2 : bb = true ↔ Hd <+: R := by
                    rw [hbb, decide_eq_true_eq, htl, HN2.out]
                    constructor
                    · rintro ⟨_, h⟩
                      have h2 := (cmpL_zero (checkL_pre n2 HCK.out) HCKH.out (fun v hv => HRWF.out v (List.mem_of_mem_take hv)) HW2.out).1 h
                      rw [← h2]; exact List.take_prefix _ _
                    · intro h
                      refine ⟨rfl, ?_⟩
                      have h2 : R.take n2 = Hd := by rw [← HN2.out]; exact (List.prefix_iff_eq_take.1 h).symm
                      rw [h2]; exact cmpL_self _
                  have HBB := hide hbb2
                  clear hsl hvH hbb hbb2 htl
                  refine wpAnyK_one (i := 11) (by kernel_rfl) rfl rfl ?_
                  refine wp_call_to (some 172) rfl 10 #[.slice av n2 cv, .slice a2 n2 c2] (by go_simp) HSM.out ?_
                  rintro en V6 ⟨rfl, f6⟩
                  have hM6 := HM5.out.q f6
                  have hS : (fun U : World => U.cell? ⟨b5, 0, none⟩ = some (.slice a2 n2 c2)) V6 := hM6.os.x5.cell
                  refine ⟨_, rfl, fun _ => hS, ?_⟩
                  simp only [Act.put, List.setIfInBounds_toArray, List.set_cons_zero, List.set_cons_succ]
                  have HM6 := hide hM6
                  have HFW6 := hide (HFW5.out.two f6)
                  clear hM6 f6 HSM
                  cases bb with
                  | true =>
                    refine wpAnyK_takeTo 12 (some 173) (.bool true) [] rfl rfl (by kernel_rfl) (by kernel_rfl) (by kernel_rfl) (by kernel_rfl) (fun _ _ _ h => h) hS (Or.inl ⟨rfl, fun w1 hw1 => by have z5 : w1.cell? ⟨b5, 0, none⟩ = some (.slice a2 n2 c2) := hw1; go_simp⟩) ?_
                    simp only [Act.put, List.setIfInBounds_toArray, List.set_cons_zero, List.set_cons_succ]
                    refine wpAnyK_done (by kernel_rfl) ?_ _
                    clear hS
                    have hpt : pfx hdk (hdk ++ ⟨#[255]⟩) (strOf (encL R)) = true := HPF.out.2 (HBB.out.1 rfl)
                    obtain ⟨fv, hfv⟩ : ∃ fv : Int, fv = (g2 : Int) - (cp : Int) := ⟨_, rfl⟩
                    obtain ⟨fv1, hfv1⟩ : ∃ fv1 : Int, fv1 = fv - 1 := ⟨_, rfl⟩
                    have hfb : -1048576 ≤ fv ∧ fv ≤ 1048576 := by omega
                    have hM6 := HM6.out
                    rw [← hfv] at hM6
                    have x21 := hM6.cn.cell
                    have z21 := hM6.cn.frozen
                    obtain ⟨V7, hV7⟩ : ∃ V7, V7 = V6.setCell ⟨b21, 0, none⟩ (.int .i64 fv1) := ⟨_, rfl⟩
                    obtain ⟨hm7, f7⟩ := m2_set hM6 HN21c.out hV7
                    have hFW7 := (HFW6.out.mono (Y := fun k => k = b21) (fun _ _ h => h.elim)).two f7
                    have KF : Hid (KeepsFrom W3c.heap.size W V7) := hide (keeps_fr hFW7 (fun k hk => by rw [show k = b21 from hk]; exact bx_isc HM.out.cn))
                    have KXX : Hid (KX X0c W V7) := hide (hFW7.mono (fun k _ hk hx => HXXc.out (by rw [← show k = b21 from hk]; exact hx)))
                    have HE7 : Hid (M2 base o (1 + 1 + 1) w tb dxc base b5 b6 (.slice a1 n1 c1) (.slice a2 n2 c2) b21 [D2, D] ((g2 : Int) - ((cntP hdk (hdk ++ ⟨#[255]⟩) (pre ++ [(⟨⟨strOf (encL R), (j : Int)⟩, hxG⟩ : In Gc)]) : Nat) : Int)) V7) := hide (by
                      rw [HSN.out, if_pos hpt]
                      rw [show (g2 : Int) - ((cp + 1 : Nat) : Int) = fv1 by omega]
                      exact hm7)
                    have HHV := hide hV7
                    have HFV1 := hide hfv1
                    have hwr : wrap64 (fv - 1) = fv1 := by rw [hfv1]; unfold wrap64; omega
                    have hfe : fv - 1 = fv1 := hfv1.symm
                    clear hpt hfv hfv1 hM6 hm7 f7 hFW7 hV7
                    gi_wp2_with (rw [← HHV.out]; clear HHV)
                    exact ⟨KF.out, KXX.out, HE7.out⟩
                  | false =>
                    refine wpAnyK_takeTo 12 (some 173) (.bool false) [] rfl rfl (by kernel_rfl) (by kernel_rfl) (by kernel_rfl) (by kernel_rfl) (fun _ _ _ h => h) hS (Or.inl ⟨rfl, fun w1 hw1 => by have z5 : w1.cell? ⟨b5, 0, none⟩ = some (.slice a2 n2 c2) := hw1; go_simp⟩) ?_
                    simp only [Act.put, List.setIfInBounds_toArray, List.set_cons_zero, List.set_cons_succ]
                    refine wpAnyK_done (by kernel_rfl) ?_ _
                    clear hS
                    have hpt : ¬ pfx hdk (hdk ++ ⟨#[255]⟩) (strOf (encL R)) = true := fun h => by have h2 := HBB.out.2 (HPF.out.1 h); cases h2
                    have KF : Hid (KeepsFrom W3c.heap.size W V6) := hide (keeps_fr HFW6.out (fun k hk => hk.elim))
                    have KXX : Hid (KX X0c W V6) := hide (KX.of HFW6.out)
                    have HE7 : Hid (M2 base o (1 + 1 + 1) w tb dxc base b5 b6 (.slice a1 n1 c1) (.slice a2 n2 c2) b21 [D2, D] ((g2 : Int) - ((cntP hdk (hdk ++ ⟨#[255]⟩) (pre ++ [(⟨⟨strOf (encL R), (j : Int)⟩, hxG⟩ : In Gc)]) : Nat) : Int)) V6) := hide (by
                      rw [HSN.out, if_neg hpt, Nat.add_zero]
                      exact HM6.out)
                    clear hpt
                    gi_wp2_with fail
                    exact ⟨KF.out, KXX.out, HE7.out⟩
                · have hlei : ¬ ((n2 : Int) ≤ (rn : Int)) := by omega
                  refine wpAnyK_takeTo 4 (some 165) (.bool false) [5, 6, 7, 8, 9, 10, 11, 12] rfl rfl (by kernel_rfl) (by kernel_rfl) (by kernel_rfl) (by kernel_rfl) (fun _ _ _ h => h) hS (Or.inl ⟨rfl, fun w1 hw1 => by have z5 : w1.cell? ⟨b5, 0, none⟩ = some (.slice a2 n2 c2) := hw1; go_simp⟩) ?_
                  simp only [Act.put, List.setIfInBounds_toArray, List.set_cons_zero, List.set_cons_succ]
                  refine wpAnyK_takeTo 5 (some 166) (.bool false) [6, 7, 8, 9, 10, 11, 12] rfl rfl (by kernel_rfl) (by kernel_rfl) (by kernel_rfl) (by kernel_rfl) (fun _ _ _ h => h) hS (Or.inl ⟨rfl, fun w1 hw1 => by have z5 : w1.cell? ⟨b5, 0, none⟩ = some (.slice a2 n2 c2) := hw1; go_simp⟩) ?_
                  simp only [Act.put, List.setIfInBounds_toArray, List.set_cons_zero, List.set_cons_succ]
                  refine wpAnyK_takeTo 6 (some 167) (undef) [9, 11, 12] rfl rfl (by kernel_rfl) (by kernel_rfl) (by kernel_rfl) (by kernel_rfl) (fun _ _ _ h => h) hS (Or.inr ⟨rfl, rfl⟩) ?_
                  simp only [Act.put, List.setIfInBounds_toArray, List.set_cons_zero, List.set_cons_succ]
                  refine wpAnyK_takeTo 7 (some 168) (undef) [8, 9, 11, 12] rfl rfl (by kernel_rfl) (by kernel_rfl) (by kernel_rfl) (by kernel_rfl) (fun _ _ _ h => h) hS (Or.inr ⟨rfl, rfl⟩) ?_
                  simp only [Act.put, List.setIfInBounds_toArray, List.set_cons_zero, List.set_cons_succ]
                  refine wpAnyK_takeTo 8 (some 169) (undef) [9, 11, 12] rfl rfl (by kernel_rfl) (by kernel_rfl) (by kernel_rfl) (by kernel_rfl) (fun _ _ _ h => h) hS (Or.inr ⟨rfl, rfl⟩) ?_
                  simp only [Act.put, List.setIfInBounds_toArray, List.set_cons_zero, List.set_cons_succ]
                  refine wpAnyK_takeTo 9 (some 170) (undef) [11, 12] rfl rfl (by kernel_rfl) (by kernel_rfl) (by kernel_rfl) (by kernel_rfl) (fun _ _ _ h => h) hS (Or.inr ⟨rfl, rfl⟩) ?_
                  simp only [Act.put, List.setIfInBounds_toArray, List.set_cons_zero, List.set_cons_succ]
                  refine wpAnyK_takeTo 10 (some 171) (undef) [11, 12] rfl rfl (by kernel_rfl) (by kernel_rfl) (by kernel_rfl) (by kernel_rfl) (fun _ _ _ h => h) hS (Or.inr ⟨rfl, rfl⟩) ?_
                  simp only [Act.put, List.setIfInBounds_toArray, List.set_cons_zero, List.set_cons_succ]
                  refine wpAnyK_takeTo 11 (some 172) (undef) [12] rfl rfl (by kernel_rfl) (by kernel_rfl) (by kernel_rfl) (by kernel_rfl) (fun _ _ _ h => h) hS (Or.inr ⟨rfl, rfl⟩) ?_
                  simp only [Act.put, List.setIfInBounds_toArray, List.set_cons_zero, List.set_cons_succ]
                  refine wpAnyK_takeTo 12 (some 173) (.bool false) [] rfl rfl (by kernel_rfl) (by kernel_rfl) (by kernel_rfl) (by kernel_rfl) (fun _ _ _ h => h) hS (Or.inl ⟨rfl, fun w1 hw1 => by have z5 : w1.cell? ⟨b5, 0, none⟩ = some (.slice a2 n2 c2) := hw1; go_simp⟩) ?_
                  simp only [Act.put, List.setIfInBounds_toArray, List.set_cons_zero, List.set_cons_succ]
                  refine wpAnyK_done (by kernel_rfl) ?_ _
                  clear hS
                  have hpt : ¬ pfx hdk (hdk ++ ⟨#[255]⟩) (strOf (encL R)) = true := fun h => by
                    have h2 := (HPF.out.1 h).length_le
                    have := HN2.out
                    have := HRN.out
                    omega
                  have KF : Hid (KeepsFrom W3c.heap.size W V5) := hide (keeps_fr HFW5.out (fun k hk => hk.elim))
                  have KXX : Hid (KX X0c W V5) := hide (KX.of HFW5.out)
                  have HE7 : Hid (M2 base o (1 + 1 + 1) w tb dxc base b5 b6 (.slice a1 n1 c1) (.slice a2 n2 c2) b21 [D2, D] ((g2 : Int) - ((cntP hdk (hdk ++ ⟨#[255]⟩) (pre ++ [(⟨⟨strOf (encL R), (j : Int)⟩, hxG⟩ : In Gc)]) : Nat) : Int)) V5) := hide (by
                    rw [HSN.out, if_neg hpt, Nat.add_zero]
                    exact HM5.out)
                  clear hpt
                  gi_wp2_with fail
                  exact ⟨KF.out, KXX.out, HE7.out⟩
              case done =>
                rintro D3 xs W hD3 hxs hm hK3
                have hcnt : cntP hdk (hdk ++ ⟨#[255]⟩) xs = g2 := by rw [cntP_all _ _ _ hxs, HG2.out, HGc.out, rng_all, HFXc.out]
                rw [hcnt, Int.sub_self] at hm
                have x21 := hm.cn.cell
                have x6 := hm.os.x6.cell
                have z6 := hm.os.x6.frozen
                obtain ⟨WE, hWE⟩ : ∃ WE, WE = W.setCell ⟨b6, 0, none⟩ (.bool true) := ⟨_, rfl⟩
                have fE : Fr W WE (fun k => k = b6) := by rw [hWE]; exact Fr.setCell _ _ _
                have y6 : Boxed WE b6 4 (.bool true) := by rw [hWE]; exact bx_put hm.os.x6 _
                have HM6 := hide hm
                have HK3 := hide hK3
                have HFE := hide fE
                have HY6 := hide y6
                have HWEE := hide hWE
                clear hm hK3 fE y6 hWE hcnt hxs hseq hlx
                go_wp2_with (rw [← HWEE.out]; clear HWEE)
                have hk3 : WE.heap[D3]? = some (.deferred (some [])) := (HFE.out.block D3 (Array.getElem?_eq_some_iff.1 HK3.out).1 (fun e => def_ne HK3.out (bx_isc HM6.out.os.x6) e)).trans HK3.out
                refine ⟨by simp, .inl ⟨_, _, rfl, run_takeDeferred hk3, ?_⟩⟩
                obtain ⟨W1, hW1⟩ : ∃ W1, W1 = WE.putObj D3 (.deferred none) := ⟨_, rfl⟩
                obtain ⟨W2, hW2⟩ : ∃ W2, W2 = W1.putObj D2 (.deferred none) := ⟨_, rfl⟩
                obtain ⟨W4, hW4⟩ : ∃ W4, W4 = W2.putObj D (.deferred none) := ⟨_, rfl⟩
                have g1 : Fr WE W1 (fun k => k = D3) := by rw [hW1]; exact (Fr.grown (grownBy_putObj' WE D3 _)).mono (fun k _ e => (Option.some.inj e).symm)
                have g2' : Fr W1 W2 (fun k => k = D2) := by rw [hW2]; exact (Fr.grown (grownBy_putObj' W1 D2 _)).mono (fun k _ e => (Option.some.inj e).symm)
                have g3 : Fr W2 W4 (fun k => k = D) := by rw [hW4]; exact (Fr.grown (grownBy_putObj' W2 D _)).mono (fun k _ e => (Option.some.inj e).symm)
                have l3 : D2 < D3 ∧ D < D3 := by have h1 := HDNNc.out D2 (by simp); have h2 := HDNNc.out D (by simp); have h3 := HN0c.out; omega
                have l2 : D < D2 := by have h1 := HDNNb.out D (by simp); have h3 := HN0b.out; have h4 := HD2N.out; omega
                have e2 : WE.heap[D2]? = some (.deferred (some [])) := (HFE.out.block D2 (Array.getElem?_eq_some_iff.1 (HM6.out.ds D2 (by simp))).1 (fun e => def_ne (HM6.out.ds D2 (by simp)) (bx_isc HM6.out.os.x6) e)).trans (HM6.out.ds D2 (by simp))
                have e1 : WE.heap[D]? = some (.deferred (some [])) := (HFE.out.block D (Array.getElem?_eq_some_iff.1 (HM6.out.ds D (by simp))).1 (fun e => def_ne (HM6.out.ds D (by simp)) (bx_isc HM6.out.os.x6) e)).trans (HM6.out.ds D (by simp))
                have e2' : W1.heap[D2]? = some (.deferred (some [])) := (g1.block D2 (Array.getElem?_eq_some_iff.1 e2).1 (by omega)).trans e2
                have e1' : W1.heap[D]? = some (.deferred (some [])) := (g1.block D (Array.getElem?_eq_some_iff.1 e1).1 (by omega)).trans e1
                have e1'' : W2.heap[D]? = some (.deferred (some [])) := (g2'.block D (Array.getElem?_eq_some_iff.1 e1').1 (by omega)).trans e1'
                have hb63 : b6 ≠ D3 := fun e => def_ne hk3 (bx_isc HY6.out) e.symm
                have hb62 : b6 ≠ D2 := fun e => def_ne e2 (bx_isc HY6.out) e.symm
                have hb61 : b6 ≠ D := fun e => def_ne e1 (bx_isc HY6.out) e.symm
                have y6' := bx_frz (bx_frz (bx_frz HY6.out g1 hb63) g2' hb62) g3 hb61
                rw [← hW1]
                refine ⟨by simp, .inl ⟨_, _, rfl, run_takeDeferred e2', ?_⟩⟩
                rw [← hW2]
                refine ⟨by simp, .inl ⟨_, _, rfl, run_takeDeferred e1'', ?_⟩⟩
                rw [← hW4]
                refine ⟨_, results_bc rfl _ _ b6 y6' rfl, rfl, ?_⟩
                have FF := ((((HM6.out.os.fr.two (HFE.out.mono (fun k _ e => by rw [e]; have h6 := HLT.out; omega))).two (g1.mono (fun k _ e => by rw [e]; have h1 := HN0c.out; have h3 := HBNc.out; omega))).two (g2'.mono (fun k _ e => by rw [e]; have h1 := HN0b.out; have h2 := HBNb.out; have h3 := HD2N.out; omega))).two (g3.mono (fun k _ e => by rw [e]; have h1 := HDN.out; have h2 := HN0.out; have h3 := HBN.out; omega)))
                exact FF.mono (fun k hk h => by have h0 := HB.out; omega)
        · have hc2i : ((code2 : Int) != 0) = true := by simp; omega
          clear hc2
          refine wpAnyK_takeTo 3 (some 126) (.bool false) [4, 5, 6, 7, 8, 9, 10, 11, 12] rfl rfl (by kernel_rfl) (by kernel_rfl) (by kernel_rfl) (by kernel_rfl) (fun _ _ _ h => h) hS (Or.inl ⟨rfl, fun w1 hw1 => by have hw1 : w1 = Vd := hw1; subst hw1; go_simp⟩) ?_
          simp only [Act.put, List.setIfInBounds_toArray, List.set_cons_zero, List.set_cons_succ]
          refine wpAnyK_takeTo 4 (some 127) (.bool false) [5, 6, 7, 8, 9, 10, 11, 12] rfl rfl (by kernel_rfl) (by kernel_rfl) (by kernel_rfl) (by kernel_rfl) (fun _ _ _ h => h) hS (Or.inl ⟨rfl, fun w1 hw1 => by have hw1 : w1 = Vd := hw1; subst hw1; go_simp⟩) ?_
          simp only [Act.put, List.setIfInBounds_toArray, List.set_cons_zero, List.set_cons_succ]
          refine wpAnyK_takeTo 5 (some 128) (.int .i64 (code2 : Int)) [6, 7, 8, 9, 10, 11, 12] rfl rfl (by kernel_rfl) (by kernel_rfl) (by kernel_rfl) (by kernel_rfl) (fun _ _ _ h => h) hS (Or.inl ⟨rfl, fun w1 hw1 => by have hw1 : w1 = Vd := hw1; subst hw1; go_simp⟩) ?_
          simp only [Act.put, List.setIfInBounds_toArray, List.set_cons_zero, List.set_cons_succ]
          refine wpAnyK_takeTo 6 (some 129) (.bool true) [7, 8, 9, 10, 11, 12] rfl rfl (by kernel_rfl) (by kernel_rfl) (by kernel_rfl) (by kernel_rfl) (fun _ _ _ h => h) hS (Or.inl ⟨rfl, fun w1 hw1 => by have hw1 : w1 = Vd := hw1; subst hw1; go_simp⟩) ?_
          simp only [Act.put, List.setIfInBounds_toArray, List.set_cons_zero, List.set_cons_succ]
          refine wpAnyK_takeTo 7 (some 130) (.bool true) [8, 9, 10, 11, 12] rfl rfl (by kernel_rfl) (by kernel_rfl) (by kernel_rfl) (by kernel_rfl) (fun _ _ _ h => h) hS (Or.inl ⟨rfl, fun w1 hw1 => by have hw1 : w1 = Vd := hw1; subst hw1; go_simp⟩) ?_
          simp only [Act.put, List.setIfInBounds_toArray, List.set_cons_zero, List.set_cons_succ]
          refine wpAnyK_takeTo 8 (some 131) (.bool true) [9, 10, 11, 12] rfl rfl (by kernel_rfl) (by kernel_rfl) (by kernel_rfl) (by kernel_rfl) (fun _ _ _ h => h) hS (Or.inl ⟨rfl, fun w1 hw1 => by have hw1 : w1 = Vd := hw1; subst hw1; go_simp⟩) ?_
          simp only [Act.put, List.setIfInBounds_toArray, List.set_cons_zero, List.set_cons_succ]
          refine wpAnyK_takeTo 9 (some 132) (undef) [10, 11, 12] rfl rfl (by kernel_rfl) (by kernel_rfl) (by kernel_rfl) (by kernel_rfl) (fun _ _ _ h => h) hS (Or.inr ⟨rfl, rfl⟩) ?_
          simp only [Act.put, List.setIfInBounds_toArray, List.set_cons_zero, List.set_cons_succ]
          refine wpAnyK_takeTo 10 (some 133) (undef) [11, 12] rfl rfl (by kernel_rfl) (by kernel_rfl) (by kernel_rfl) (by kernel_rfl) (fun _ _ _ h => h) hS (Or.inr ⟨rfl, rfl⟩) ?_
          simp only [Act.put, List.setIfInBounds_toArray, List.set_cons_zero, List.set_cons_succ]
          refine wpAnyK_takeTo 11 (some 134) (undef) [12] rfl rfl (by kernel_rfl) (by kernel_rfl) (by kernel_rfl) (by kernel_rfl) (fun _ _ _ h => h) hS (Or.inr ⟨rfl, rfl⟩) ?_
          simp only [Act.put, List.setIfInBounds_toArray, List.set_cons_zero, List.set_cons_succ]
          refine wpAnyK_takeTo 12 (some 135) (.bool true) [] rfl rfl (by kernel_rfl) (by kernel_rfl) (by kernel_rfl) (by kernel_rfl) (fun _ _ _ h => h) hS (Or.inl ⟨rfl, fun w1 hw1 => by have hw1 : w1 = Vd := hw1; subst hw1; go_simp⟩) ?_
          simp only [Act.put, List.setIfInBounds_toArray, List.set_cons_zero, List.set_cons_succ]
          refine wpAnyK_done (by kernel_rfl) ?_ _
          clear hS
          go_wp2_with fail
          refine wp_region_K (fun z => decide (z < 4)) (fun U : World => U = Ve) (by kernel_rfl) ?_
          have HLE' := hide HLE2.out
          have hS : (fun U : World => U = Ve) Ve := rfl
          rw [← HVE.out]
          refine wpAnyK_takeTo 0 (some 136) (.int .i64 (gl : Int)) [3, 4] rfl rfl (by kernel_rfl) (by kernel_rfl) (by kernel_rfl) (by kernel_rfl) (fun _ _ _ h => h) hS (Or.inl ⟨rfl, fun w1 hw1 => by have hw1 : w1 = Ve := hw1; subst hw1; go_simp⟩) ?_
          simp only [Act.put, List.setIfInBounds_toArray, List.set_cons_zero, List.set_cons_succ]
          refine wpAnyK_takeTo 1 (some 137) (.pointer (some ⟨tb, 0, none⟩)) [2, 3, 4] rfl rfl (by kernel_rfl) (by kernel_rfl) (by kernel_rfl) (by kernel_rfl) (fun _ _ _ h => h) hS (Or.inl ⟨rfl, fun w1 hw1 => by have hw1 : w1 = Ve := hw1; subst hw1; go_simp⟩) ?_
          simp only [Act.put, List.setIfInBounds_toArray, List.set_cons_zero, List.set_cons_succ]
          refine wpAnyK_one (i := 2) (by kernel_rfl) rfl rfl ?_
          refine wp_call_to (some 138) rfl 6 #[.pointer (some ⟨tb, 0, none⟩)] (by go_simp) HLE2.out ?_
          rintro en Vx ⟨rfl, hww⟩
          rw [hww]
          clear hww
          refine ⟨_, rfl, fun _ => hS, ?_⟩
          simp only [Act.put, List.setIfInBounds_toArray, List.set_cons_zero, List.set_cons_succ]
          refine wpAnyK_takeTo 3 (some 139) (.bool true) [4] rfl rfl (by kernel_rfl) (by kernel_rfl) (by kernel_rfl) (by kernel_rfl) (fun _ _ _ h => h) hS (Or.inl ⟨rfl, fun w1 hw1 => by have hw1 : w1 = Ve := hw1; subst hw1; go_simp⟩) ?_
          simp only [Act.put, List.setIfInBounds_toArray, List.set_cons_zero, List.set_cons_succ]
          refine wpAnyK_one (i := 4) (by kernel_rfl) rfl rfl ?_
          go_simp
          rw [← HWE.out]
          refine wpAnyK_done (by kernel_rfl) ?_ _
          clear hS
          go_wp2_with fail
          refine ⟨by simp, .inl ⟨_, _, rfl, run_takeDeferred HKE.out, ?_⟩⟩
          exact ⟨_, results_bc rfl _ _ b6 (HFIN.out _).1 rfl, rfl, (HFIN.out _).2⟩
end Go.Proofs.Ytiicgfipmdgnhaa
