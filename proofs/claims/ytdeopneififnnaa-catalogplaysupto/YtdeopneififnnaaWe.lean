/- CatalogPlays: the walk. -/
import Derived.Test.YtdeopneififnnaaWd
namespace Go.Proofs.Ytdeopneififnnaa
open Go.RowKit
set_option maxRecDepth 100000
set_option linter.unusedVariables false
set_option linter.unusedSimpArgs false

/-- Calls that came in. -/
def OpsIn (w : World) (a : Option Addr) (O : List (Int × Tb)) : Prop := ∀ (i : Nat) (o : Int × Tb), O[i]? = some o → ∃ g off, a = some ⟨g, off, none⟩ ∧ w.rangeAt g (off + i * 6) [.int .i64 o.1, .int .i64 o.2.id, .string o.2.name, .slice o.2.ca o.2.cn o.2.cc, .slice o.2.ka o.2.kn o.2.kc, .bool o.2.ix] ∧ TabIn (fun _ => True) w o.2
/-- Two places in rows. -/
def SG (g o g2 : Nat) (x y : Tb) (U : World) : Prop := TbAt U g o x ∧ TbAt U g2 o y
theorem SG.fr {g o g2 : Nat} {x y : Tb} {U V : World} (h : SG g o g2 x y U) (hf : Fr U V (fun _ => False)) : SG g o g2 x y V := ⟨h.1.fr hf (fun h => h), h.2.fr hf (fun h => h)⟩
theorem SG.cells {g o g2 : Nat} {x y : Tb} {U : World} (h : SG g o g2 x y U) : (U.cell? ⟨g, o, none⟩ = some (.int .i64 x.id) ∧ U.cell? ⟨g, o + 1, none⟩ = some (.string x.name) ∧ U.cell? ⟨g, o + 2, none⟩ = some (.slice x.ca x.cn x.cc) ∧ U.cell? ⟨g, o + 3, none⟩ = some (.slice x.ka x.kn x.kc) ∧ U.cell? ⟨g, o + 4, none⟩ = some (.bool x.ix)) ∧ (U.cell? ⟨g2, o, none⟩ = some (.int .i64 y.id) ∧ U.cell? ⟨g2, o + 1, none⟩ = some (.string y.name) ∧ U.cell? ⟨g2, o + 2, none⟩ = some (.slice y.ca y.cn y.cc) ∧ U.cell? ⟨g2, o + 3, none⟩ = some (.slice y.ka y.kn y.kc) ∧ U.cell? ⟨g2, o + 4, none⟩ = some (.bool y.ix)) := ⟨⟨h.1.c0, h.1.c1, h.1.c2, h.1.c3, h.1.c4⟩, ⟨h.2.c0, h.2.c1, h.2.c2, h.2.c3, h.2.c4⟩⟩
theorem one_tab {w : World} (id : Int) (hid : In64 id) (nm : ByteArray) (gA : Nat) (hA : w.heap[gA]? = some (.cells #[.string ⟨#[65]⟩, .int .i64 1] 37 (0, 0))) :
    TabIn (fun _ => True) w ⟨id, nm, some ⟨gA, 0, none⟩, 1, 1, [⟨⟨#[65]⟩, 1⟩], none, 0, 0, [], false⟩ := by
  refine ⟨fun i x hi => ?_, rfl, by dsimp only; omega, .inr ⟨gA, 0, rfl, trivial, (Array.getElem?_eq_some_iff.1 hA).1⟩, fun i x hi => by simp at hi, rfl, by dsimp only; omega, .inl ⟨rfl, rfl⟩, hid⟩
  match i, hi with
  | 0, hi => cases hi; exact ⟨gA, 0, rfl, trivial, (cell_of_row _ _ _ _ _ _ hA).trans rfl, (cell_of_row _ _ _ _ _ _ hA).trans rfl⟩
theorem step_any {b : Nat} {P X Y : Nat → Prop} {w : World} {gc : Nat} {v1 v2 : Value} {L1 L2 : List Tb} (h : PS b X Y w gc v1 v2 L1 L2) (kd : Int) (t : Tb) (ht : TabIn P w t) (hP : ∀ k, P k → ¬ X k) (hbw : b ≤ w.heap.size) : Calls Try.prog 13 #[.pointer (some ⟨gc, 0, none⟩), v2, opV kd t] w (StepP b X gc w) := by
  obtain ⟨id, nm, ca, cn, cc, C, ka, kn, kc, K, ix⟩ := t
  by_cases h0 : kd = 0
  · subst h0; exact step_create h id nm ca cn cc C ka kn kc K ix ht hP hbw
  · by_cases h1 : kd = 1
    · subst h1; exact step_index h id nm ca cn cc C ka kn kc K ix ht hP hbw
    · by_cases h2 : kd = 2
      · subst h2; exact step_find h id nm ca cn cc C ka kn kc K ix ht hP hbw
      · exact step_other h kd h0 h1 h2 id nm ca cn cc C ka kn kc K ix ht hP hbw
/-- What is kept from call to call. -/
def PI (w : World) (gc : Nat) (v2 : Value) (W : World) : Prop := ∃ (X Y : Nat → Prop) (v1 : Value) (L1 L2 : List Tb), PS w.heap.size X Y W gc v1 v2 L1 L2 ∧ Fr w W (fun _ => False)
set_option maxHeartbeats 32000000 in
theorem plays_walk {w : World} (a : Option Addr) (n c : Nat) (O : List (Int × Tb)) (hO : OpsIn w a O) (hn : O.length = n) (hb : n ≤ 1048576) : Calls Try.prog 3 #[.slice a n c] w fun e w' => e = .returned (.bool true) ∧ Fr w w' (fun _ => False) := by
  have HO := hide hO
  have HN := hide hn
  have HAW := hide (awake_any w)
  clear hO hn
  go_enter Try.func3, Try.ntmps3
  go_wp2_with fail
  refine HAW.out.mono ?_
  rintro e w1 ⟨rfl, f1⟩
  have HF1 := hide f1
  have HNew := hide (new_any w1)
  obtain ⟨g0, hg0⟩ : ∃ g0, g0 = w1.heap.size := ⟨_, rfl⟩
  rw [← hg0] at HNew
  have HG0 := hide hg0
  clear HAW f1 hg0
  go_wp2_with fail
  refine HNew.out.mono ?_
  rintro e w2 ⟨rfl, f2, hl2, hcat⟩
  have HPI : Hid (PI w g0 (.slice none 0 0) w2) := hide ⟨fun k => k = g0, fun _ => False, _, [], [], ⟨hcat, docR_nil w2, fun k _ h => h, fun k hk => by have := HF1.out.size; have := HG0.out; omega, fun k hk => by have := HG0.out; omega, fun k hk => hk.elim, rfl, by simp⟩, HF1.out.two f2⟩
  clear HNew f2 hl2 hcat HF1 HG0
  go_wp2_with fail
  go_loopw [3, 4, 5, 16] (fun cv wv ov ix wr => ∃ (j gc : Nat) (v2 : Value), j ≤ n ∧ cv = .pointer (some ⟨gc, 0, none⟩) ∧ wv = v2 ∧ ov = .bool true ∧ ix = .int .i64 (j : Int) ∧ PI w gc v2 wr) (fun _ _ _ ix _ => n - (intOf ix).toNat)
  case atStart => exact ⟨0, g0, _, Nat.zero_le _, rfl, rfl, rfl, rfl, HPI.out⟩
  case round =>
    clear HPI
    rename World => W
    obtain ⟨j, gc, v2, hj, rfl, rfl, rfl, rfl, X, Y, v1, L1, L2, hps, hf⟩ := hrel
    have HPS := hide hps
    have HF := hide hf
    clear hps hf
    obtain ⟨va, vn, vc, rfl⟩ := ownsRow_shape HPS.out.doc.row
    rcases Nat.lt_or_ge j n with hlt | hge
    · obtain ⟨o, ho⟩ : ∃ o, O[j]? = some o := ⟨_, List.getElem?_eq_getElem (by rw [HN.out]; exact hlt)⟩
      obtain ⟨g, off, ha, hra, hto⟩ := HO.out j o ho
      obtain ⟨kd, t⟩ := o
      subst ha
      have hra' := rangeAt_fr hra HF.out (fun h => h)
      have e0 := hra' 0 _ rfl
      have e1 := hra' 1 _ rfl
      have e2 := hra' 2 _ rfl
      have e3 := hra' 3 _ rfl
      have e4 := hra' 4 _ rfl
      have e5 := hra' 5 _ rfl
      dsimp only at e0 e1 e2 e3 e4 e5
      rw [Nat.add_zero] at e0
      obtain ⟨Bo, hBo⟩ : ∃ Bo, Bo = W.heap.size := ⟨_, rfl⟩
      obtain ⟨W1, hW1⟩ : ∃ W1, W1 = W.alloc (.cells #[.int .i64 kd, .int .i64 t.id, .string t.name, .slice t.ca t.cn t.cc, .slice t.ka t.kn t.kc, .bool t.ix] 32) := ⟨_, rfl⟩
      have b1 : BoxO W1 Bo kd t := by rw [hW1, hBo]; exact heap_alloc_new W _
      have f1 : Fr W W1 (fun _ => False) := by rw [hW1]; exact Fr.alloc W _ _
      have HP1 := hide (HPS.out.fr f1)
      have HF1 := hide (HF.out.two f1)
      have HT1 := hide (hto.lt.fr HF1.out (fun _ _ h => h))
      have HB1 := hide b1
      have HS1 : Hid (W.heap.size ≤ W1.heap.size) := hide f1.size
      have HXW : Hid (∀ k, X k → k < W.heap.size) := hide HPS.out.xlt
      obtain ⟨x0, x1, x2, x3, x4, x5⟩ := b1.cells
      have HW1 := hide hW1
      have HBo := hide hBo
      clear ho hra hra' hto b1 f1 hW1 hBo HPS HF
      by_cases h3 : kd = 3
      · subst h3
        have HFO := hide (fork_any HP1.out.cat (by have := HP1.out.len; omega))
        go_wp2_with (rw [← HW1.out, ← HBo.out]; clear HW1)
        refine HFO.out.mono ?_
        rintro e W2 ⟨gf, vf, M, rfl, hM, hcf, f2⟩
        obtain ⟨W3, hW3⟩ : ∃ W3, W3 = W2.alloc (.cells #[.string ⟨#[65]⟩, .int .i64 1] 37) := ⟨_, rfl⟩
        obtain ⟨gA, hgA⟩ : ∃ gA, gA = W2.heap.size := ⟨_, rfl⟩
        have f3 : Fr W2 W3 (fun _ => False) := by rw [hW3]; exact Fr.alloc W2 _ _
        have b3 : W3.heap[gA]? = some (.cells #[.string ⟨#[65]⟩, .int .i64 1] 37 (0, 0)) := by rw [hW3, hgA]; exact heap_alloc_new W2 _
        have hp3 := HP1.out.fr (f2.two f3)
        obtain ⟨m, hm⟩ : ∃ m, L1.length = m := ⟨_, rfl⟩
        have hcr := create_any hp3.cat (by have := hp3.len; omega) ⟨(m : Int) + 1, ⟨#[90, 90, 57]⟩, some ⟨gA, 0, none⟩, 1, 1, [⟨⟨#[65]⟩, 1⟩], none, 0, 0, [], false⟩ (by rw [hm]) rfl (one_tab (w := W3) ((m : Int) + 1) (by have := hp3.len; unfold In64; omega) ⟨#[90, 90, 57]⟩ gA b3)
        dsimp only at hcr
        have HCR := hide hcr
        have HP3 := hide hp3
        have HF3 := hide (HF1.out.two (f2.two f3))
        have HCF := hide (hcf.lt.fr f3 (fun _ _ h => h))
        have HMK := hide hM
        have HS3 : Hid (W1.heap.size ≤ W2.heap.size ∧ W2.heap.size ≤ W3.heap.size) := hide ⟨f2.size, f3.size⟩
        have HW3 := hide hW3
        have HgA := hide hgA
        clear HFO hM hcf f2 hW3 hgA f3 b3 hp3 hcr hm x0 x1 x2 x3 x4 x5 e0 e1 e2 e3 e4 e5
        go_wp2_with (rw [← HW3.out, ← HgA.out]; clear HW3)
        refine HCR.out.mono ?_
        rintro e W4 hpost
        obtain ⟨r4, hr4, f4⟩ : ∃ r4, e = .returned r4 ∧ Fr W3 W4 X := by
          rcases hpost with ⟨_, rfl, f4⟩ | ⟨_, rfl, f4, _⟩
          · exact ⟨_, rfl, f4.mono (fun _ _ h => h.elim)⟩
          · exact ⟨_, rfl, f4⟩
        subst hr4
        have HPI : Hid (PI w gf (.slice va vn vc) W4) := hide ⟨_, Y, vf, M, L2, ⟨HCF.out.fr f4 (fun k hk hx => by have h1 : W1.heap.size ≤ k ∧ k < W2.heap.size := hk; have := HXW.out k hx; have := HS1.out; omega), HP3.out.doc.fr f4 (fun k hy hx => HP3.out.apart k hx hy), fun k hk hy => by have h1 : W1.heap.size ≤ k ∧ k < W2.heap.size := hk; have := HP1.out.ylt k hy; omega, fun k hk => by have h1 : W1.heap.size ≤ k ∧ k < W2.heap.size := hk; have := HF1.out.size; omega, fun k hk => by have h1 : W1.heap.size ≤ k ∧ k < W2.heap.size := hk; have := HS3.out; have := f4.size; omega, fun k hk => Nat.lt_of_lt_of_le (HP3.out.ylt k hk) f4.size, HMK.out.trans HP3.out.keys, by have h1 := congrArg List.length HMK.out; rw [List.length_map, List.length_map] at h1; have := HP3.out.len; omega⟩, (HF3.out.trans f4).mono (fun k hk h => by rcases h with h | h; exact h; (have := HP3.out.low k h; omega))⟩
        clear HCR hpost f4
        go_wp2
        go_roundw
        case rel => exact ⟨j + 1, gf, _, by omega, rfl, rfl, rfl, by go_num, HPI.out⟩
        case measure => simp [intOf]; omega
      · have h3b : (kd == 3) = false := by simpa using h3
        have HST := hide (step_any HP1.out kd t HT1.out (fun k hk hx => by have h1 : True ∧ k < w.heap.size := hk; have := HP1.out.low k hx; omega) HF1.out.size)
        unfold opV at HST
        go_wp2_with (rw [← HW1.out, ← HBo.out]; clear HW1)
        refine HST.out.mono ?_
        rintro e W2 ⟨v2', rfl, f2, X', Y', v1', L1', L2', hps2⟩
        have HPI : Hid (PI w gc v2' W2) := hide ⟨X', Y', v1', L1', L2', hps2, (HF1.out.trans f2).mono (fun k hk h => by rcases h with h | h; exact h; (have := HP1.out.low k h; omega))⟩
        obtain ⟨za, zn, zc, rfl⟩ := ownsRow_shape hps2.doc.row
        clear HST f2 hps2 x0 x1 x2 x3 x4 x5 e0 e1 e2 e3 e4 e5
        go_wp2
        go_roundw
        case rel => exact ⟨j + 1, gc, _, by omega, rfl, rfl, rfl, by go_num, HPI.out⟩
        case measure => simp [intOf]; omega
    · have hcj : ¬ ((j : Int) < (n : Int)) := by omega
      have hcjb : decide ((j : Int) < (n : Int)) = false := by simp; omega
      obtain ⟨m, hm⟩ : ∃ m, L1.length = m := ⟨_, rfl⟩
      have hml : m ≤ 16 := by rw [← hm]; exact HPS.out.len
      have hm2 : L2.length = m := by rw [← hm]; exact HPS.out.length.symm
      obtain ⟨va', vc', hvv, hat⟩ := HPS.out.doc.at
      simp only [Value.slice.injEq] at hvv
      obtain ⟨rfl, rfl, rfl⟩ := hvv
      have HTA := hide (tables_any HPS.out.cat (by have := HPS.out.len; omega))
      rw [hm] at HTA
      rw [hm2]
      have HM := hide hm
      have HM2 := hide hm2
      have HAT := hide hat
      clear hat hm hm2
      go_wp2_with fail
      refine HTA.out.mono ?_
      rintro e W2 ⟨la, lc, M, rfl, hcp⟩
      obtain ⟨la', lc', hll, hlat⟩ := rows_at hcp.row
      have hMl : M.length = m := hcp.len.trans HM.out
      rw [hMl] at hll
      simp only [Value.slice.injEq, true_and] at hll
      obtain ⟨rfl, rfl⟩ := hll
      have HLA := hide hlat
      have HML := hide hMl
      have HTB := hide hcp.tabs
      have HTD := hide (fun t ht => (HPS.out.doc.tabs t ht).fr hcp.fr (fun _ _ h => h))
      have HF2 := hide (HF.out.two hcp.fr)
      have HF3 := hide hcp.fr
      have HKY : Hid (M.map Tb.key = L2.map Tb.key) := hide (hcp.same.trans HPS.out.keys)
      have hmm : ((m : Int) == (m : Int)) = true := by simp
      have hmn : ((m : Int) != (m : Int)) = false := by simp
      clear HTA hcp hlat hMl
      go_wp2_with fail
      go_loopw [51] (fun ix wr => ∃ i : Nat, i ≤ m ∧ ix = .int .i64 (i : Int) ∧ Fr W2 wr (fun _ => False)) (fun ix _ => m - (intOf ix).toNat)
      case atStart => exact ⟨0, Nat.zero_le _, rfl, Fr.refl _ _⟩
      case round =>
        rename World => Z
        obtain ⟨i, hi, rfl, hfz⟩ := hrel
        have HFZ := hide hfz
        clear hfz
        rcases Nat.lt_or_ge i m with hlt | hge2
        · obtain ⟨x, hx⟩ : ∃ x, M[i]? = some x := ⟨_, List.getElem?_eq_getElem (by rw [HML.out]; exact hlt)⟩
          obtain ⟨y, hy, hk⟩ := keys_get HKY.out hx
          obtain ⟨gl, hla, htx⟩ := HLA.out i x hx
          obtain ⟨g2, hva, hty⟩ := HAT.out i y hy
          subst hla
          subst hva
          have hTX := (HTB.out x (List.mem_of_getElem? hx)).fr HFZ.out (fun _ _ h => h)
          have hTY := (HTD.out y (List.mem_of_getElem? hy)).fr HFZ.out (fun _ _ h => h)
          obtain ⟨xi, xn, xa, xcn, xc, xC, xk, xkn, xd, xK, xx⟩ := x
          obtain ⟨yi, yn, ya, ycn, yc, yC, yk, ykn, yd, yK, yx⟩ := y
          simp only [Tb.key, Prod.mk.injEq] at hk
          obtain ⟨rfl, rfl, rfl, rfl, rfl⟩ := hk
          obtain rfl : xcn = ycn := by have h1 := hTX.cn; have h2 := hTY.cn; dsimp only at h1 h2; omega
          obtain rfl : xkn = ykn := by have h1 := hTX.kn; have h2 := hTY.kn; dsimp only at h1 h2; omega
          have HTX := hide hTX
          have HTY := hide hTY
          have HSG : Hid (SG gl (i * 5) g2 ⟨xi, xn, xa, xcn, xc, xC, xk, xkn, xd, xK, xx⟩ ⟨xi, xn, ya, xcn, yc, xC, yk, xkn, yd, xK, xx⟩ Z) := hide ⟨htx.fr HFZ.out (fun h => h), (hty.fr HF3.out (fun h => h)).fr HFZ.out (fun h => h)⟩
          clear hx hy htx hty hTX hTY
          go_wp2_with fail
          refine wp_region_K (fun _ => true) (SG gl (i * 5) g2 ⟨xi, xn, xa, xcn, xc, xC, xk, xkn, xd, xK, xx⟩ ⟨xi, xn, ya, xcn, yc, xC, yk, xkn, yd, xK, xx⟩) (by kernel_rfl) ?_
          have fd := Fr.drew Z (fun _ => False)
          have hS := HSG.out.fr fd
          refine wpAnyK_takeTo 0 (some 54) (.slice (some ⟨gl, 0, none⟩) m lc) [2, 3, 4, 9, 10] rfl rfl (by kernel_rfl) (by kernel_rfl) (by kernel_rfl) (by kernel_rfl) (fun _ _ _ h => h) hS (Or.inl ⟨rfl, fun w1 hw1 => by obtain ⟨⟨p0, p1, p2, p3, p4⟩, ⟨q0, q1, q2, q3, q4⟩⟩ := SG.cells hw1; dsimp only at p0 p1 p2 p3 p4 q0 q1 q2 q3 q4; go_simp⟩) ?_
          simp only [Act.put, List.setIfInBounds_toArray, List.set_cons_zero, List.set_cons_succ]
          refine wpAnyK_takeTo 1 (some 55) (.int .i64 (i : Int)) [2, 3, 4, 9, 10] rfl rfl (by kernel_rfl) (by kernel_rfl) (by kernel_rfl) (by kernel_rfl) (fun _ _ _ h => h) hS (Or.inl ⟨rfl, fun w1 hw1 => by obtain ⟨⟨p0, p1, p2, p3, p4⟩, ⟨q0, q1, q2, q3, q4⟩⟩ := SG.cells hw1; dsimp only at p0 p1 p2 p3 p4 q0 q1 q2 q3 q4; go_simp⟩) ?_
          simp only [Act.put, List.setIfInBounds_toArray, List.set_cons_zero, List.set_cons_succ]
          refine wpAnyK_takeTo 2 (some 56) (.pointer (some ⟨gl, i * 5, none⟩)) [3, 4, 9, 10] rfl rfl (by kernel_rfl) (by kernel_rfl) (by kernel_rfl) (by kernel_rfl) (fun _ _ _ h => h) hS (Or.inl ⟨rfl, fun w1 hw1 => by obtain ⟨⟨p0, p1, p2, p3, p4⟩, ⟨q0, q1, q2, q3, q4⟩⟩ := SG.cells hw1; dsimp only at p0 p1 p2 p3 p4 q0 q1 q2 q3 q4; go_simp⟩) ?_
          simp only [Act.put, List.setIfInBounds_toArray, List.set_cons_zero, List.set_cons_succ]
          refine wpAnyK_takeTo 3 (some 57) (.agg #[.int .i64 xi, .string xn, .slice xa xcn xc, .slice xk xkn xd, .bool xx]) [4, 9, 10] rfl rfl (by kernel_rfl) (by kernel_rfl) (by kernel_rfl) (by kernel_rfl) (fun _ _ _ h => h) hS (Or.inl ⟨rfl, fun w1 hw1 => by obtain ⟨⟨p0, p1, p2, p3, p4⟩, ⟨q0, q1, q2, q3, q4⟩⟩ := SG.cells hw1; dsimp only at p0 p1 p2 p3 p4 q0 q1 q2 q3 q4; go_simp⟩) ?_
          simp only [Act.put, List.setIfInBounds_toArray, List.set_cons_zero, List.set_cons_succ]
          refine wpAnyK_takeTo 5 (some 59) (.slice (some ⟨g2, 0, none⟩) m vc) [7, 8, 9, 10] rfl rfl (by kernel_rfl) (by kernel_rfl) (by kernel_rfl) (by kernel_rfl) (fun _ _ _ h => h) hS (Or.inl ⟨rfl, fun w1 hw1 => by obtain ⟨⟨p0, p1, p2, p3, p4⟩, ⟨q0, q1, q2, q3, q4⟩⟩ := SG.cells hw1; dsimp only at p0 p1 p2 p3 p4 q0 q1 q2 q3 q4; go_simp⟩) ?_
          simp only [Act.put, List.setIfInBounds_toArray, List.set_cons_zero, List.set_cons_succ]
          refine wpAnyK_takeTo 6 (some 60) (.int .i64 (i : Int)) [7, 8, 9, 10] rfl rfl (by kernel_rfl) (by kernel_rfl) (by kernel_rfl) (by kernel_rfl) (fun _ _ _ h => h) hS (Or.inl ⟨rfl, fun w1 hw1 => by obtain ⟨⟨p0, p1, p2, p3, p4⟩, ⟨q0, q1, q2, q3, q4⟩⟩ := SG.cells hw1; dsimp only at p0 p1 p2 p3 p4 q0 q1 q2 q3 q4; go_simp⟩) ?_
          simp only [Act.put, List.setIfInBounds_toArray, List.set_cons_zero, List.set_cons_succ]
          refine wpAnyK_takeTo 7 (some 61) (.pointer (some ⟨g2, i * 5, none⟩)) [8, 9, 10] rfl rfl (by kernel_rfl) (by kernel_rfl) (by kernel_rfl) (by kernel_rfl) (fun _ _ _ h => h) hS (Or.inl ⟨rfl, fun w1 hw1 => by obtain ⟨⟨p0, p1, p2, p3, p4⟩, ⟨q0, q1, q2, q3, q4⟩⟩ := SG.cells hw1; dsimp only at p0 p1 p2 p3 p4 q0 q1 q2 q3 q4; go_simp⟩) ?_
          simp only [Act.put, List.setIfInBounds_toArray, List.set_cons_zero, List.set_cons_succ]
          refine wpAnyK_takeTo 8 (some 62) (.agg #[.int .i64 xi, .string xn, .slice ya xcn yc, .slice yk xkn yd, .bool xx]) [9, 10] rfl rfl (by kernel_rfl) (by kernel_rfl) (by kernel_rfl) (by kernel_rfl) (fun _ _ _ h => h) hS (Or.inl ⟨rfl, fun w1 hw1 => by obtain ⟨⟨p0, p1, p2, p3, p4⟩, ⟨q0, q1, q2, q3, q4⟩⟩ := SG.cells hw1; dsimp only at p0 p1 p2 p3 p4 q0 q1 q2 q3 q4; go_simp⟩) ?_
          simp only [Act.put, List.setIfInBounds_toArray, List.set_cons_zero, List.set_cons_succ]
          refine wpAnyK_one (i := 4) (by kernel_rfl) rfl rfl ?_
          refine wp_call_to (some 58) rfl 16 #[.agg #[.int .i64 xi, .string xn, .slice xa xcn xc, .slice xk xkn xd, .bool xx]] (by go_simp) (plain_any ⟨xi, xn, xa, xcn, xc, xC, xk, xkn, xd, xK, xx⟩ Z.drew) ?_
          rintro e V1 ⟨rfl, g1⟩
          replace hS := hS.fr g1
          refine ⟨_, rfl, fun _ => hS, ?_⟩
          unfold Tb.agg
          simp only [Act.put, List.setIfInBounds_toArray, List.set_cons_zero, List.set_cons_succ]
          have g3 := fd.two g1
          refine wpAnyK_one (i := 9) (by kernel_rfl) rfl rfl ?_
          refine wp_call_to (some 63) rfl 15 #[.agg #[.int .i64 xi, .string xn, .slice xa xcn xc, .slice xk xkn xd, .bool xx], .agg #[.int .i64 xi, .string xn, .slice ya xcn yc, .slice yk xkn yd, .bool xx]] (by go_simp) (same_yes xi xn xx xC xK xa ya xk yk xcn xc yc xkn xd yd (HTX.out.fr g3 (fun _ _ h => h)) (HTY.out.fr g3 (fun _ _ h => h))) ?_
          rintro e V2 ⟨rfl, g4⟩
          replace hS := hS.fr g4
          refine ⟨_, rfl, fun _ => hS, ?_⟩
          simp only [Act.put, List.setIfInBounds_toArray, List.set_cons_zero, List.set_cons_succ]
          have HFE := hide (HFZ.out.two (g3.two g4))
          refine wpAnyK_takeTo 10 (some 64) (.bool false) [] rfl rfl (by kernel_rfl) (by kernel_rfl) (by kernel_rfl) (by kernel_rfl) (fun _ _ _ h => h) hS (Or.inl ⟨rfl, fun w1 hw1 => by obtain ⟨⟨p0, p1, p2, p3, p4⟩, ⟨q0, q1, q2, q3, q4⟩⟩ := SG.cells hw1; dsimp only at p0 p1 p2 p3 p4 q0 q1 q2 q3 q4; go_simp⟩) ?_
          simp only [Act.put, List.setIfInBounds_toArray, List.set_cons_zero, List.set_cons_succ]
          refine wpAnyK_done (by kernel_rfl) ?_ _
          clear hS fd g1 g3 g4 HSG HTX HTY
          go_wp2
          go_roundw
          case rel => exact ⟨i + 1, by omega, by go_num, HFE.out⟩
          case measure => simp [intOf]; omega
        · have hci : ¬ ((i : Int) < (m : Int)) := by omega
          have hcib : decide ((i : Int) < (m : Int)) = false := by simp; omega
          go_wp2
          go_ret
          exact ⟨rfl, HF2.out.two HFZ.out⟩
end Go.Proofs.Ytdeopneififnnaa
