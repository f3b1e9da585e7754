/- Steps by their beginnings; those that begin ahead; a pair is taken. -/
import Derived.Test.YtlapifncplbcnaaGreatJn
import Derived.Test.YtlapifncplbcnaaGreatCo
namespace Go.Proofs.YtlapifncplbcnaaGreat
open Go.RowKit Go.Sort Go.Shelf
set_option maxRecDepth 100000
set_option linter.unusedVariables false
set_option linter.unusedSimpArgs false

set_option maxHeartbeats 2000000 in
theorem loCmp (w : World) (x y : St) :
    Calls Tryz.prog 84 (#[.agg (elS.enc x).toArray, .agg (elS.enc y).toArray] ++ #[]) w fun e w' => e = .returned (.int .i64 (cmpI x.lo y.lo)) ∧ Gr w w' := by
  show Calls Tryz.prog 84 #[.agg #[.int .i64 x.lo, .int .i64 x.hi, x.rv, .int .i64 x.n], .agg #[.int .i64 y.lo, .int .i64 y.hi, y.rv, .int .i64 y.n]] w _
  unfold St.rv
  have HC := hide (cmpInt64_any x.lo y.lo)
  have G2 := hide (gr_two (w := w) (o1 := .cells #[.int .i64 x.lo, .int .i64 x.hi, .slice x.p x.row.length x.c, .int .i64 x.n] 79) (o2 := .cells #[.int .i64 y.lo, .int .i64 y.hi, .slice y.p y.row.length y.c, .int .i64 y.n] 79))
  go_enter Tryz.func84, Tryz.ntmps84
  go_wp2_with (go_at_call 83; refine (HC.out _).mono ?_; rintro e w' ⟨rfl, rfl⟩)
  go_ret
  exact ⟨rfl, G2.out⟩
theorem enters_lo : ∀ args w, (callFunc 84 args).run Tryz.prog w = .ok (.enter 84 args) w := enters_of Tryz.func84 (by kernel_rfl) rfl
/-- In the order of beginnings. -/
def Srt (T : List St) : Prop := T.Pairwise (fun x y => ¬ cmpI y.lo x.lo < 0)
/-- Steps sorted by their beginnings. -/
theorem sortB_any (v : Value) (S : List St) (w : World) (hv : Own elS w v S) (hl : S.length ≤ 2199023255552) :
    Calls Tryz.prog 78 #[v, .func (.func 84) #[] #[]] w fun e w' => e = .returned (.tuple #[]) ∧ ∃ T : List St, T.Perm S ∧ Srt T ∧ Own elS w' v T ∧ Fr w w' (fun k => v.ownBlock = some k) :=
  sort_own elS Tryz.sortStep Tryz.isAgg79 Tryz.sizeOf79 (fun x y : St => cmpI x.lo y.lo) (good_int St.lo) 84 #[] enters_lo v S w hv hl (fun _ => True) (fun _ _ => trivial)
    (fun w1 _ x y _ _ => loCmp w1 x y)
set_option maxHeartbeats 4000000 in
/-- Those that begin ahead of an instant. -/
theorem begun_any {w : World} {g off c : Nat} {S : List St} (t : Int) (hL : Row elS w (some ⟨g, off, none⟩) S) (hl : S.length ≤ 1099511627776) (hc : S.length ≤ c) :
    Calls Tryz.prog 85 #[.slice (some ⟨g, off, none⟩) S.length c, .int .i64 t] w fun e w' => ∃ k, k ≤ S.length ∧ e = .returned (.slice (some ⟨g, off, none⟩) k c) ∧ (∀ s ∈ S.take k, s.lo < t) ∧ (∀ x, S[k]? = some x → t ≤ x.lo) ∧ w' = w := by
  have HL := hide hL
  obtain ⟨m, hm⟩ : ∃ m, m = S.length := ⟨_, rfl⟩
  rw [← hm] at hl hc ⊢
  have HM := hide hm
  clear hL hm
  go_enter Tryz.func85, Tryz.ntmps85
  go_wp2_with fail
  go_loopw [5] (fun i wr => ∃ k : Nat, k ≤ m ∧ i = .int .i64 (k : Int) ∧ (∀ s ∈ S.take k, s.lo < t) ∧ wr = w) (fun i _ => m - (intOf i).toNat)
  case atStart => exact ⟨0, by omega, rfl, by simp, rfl⟩
  case round =>
    rename World => W
    obtain ⟨k, hk, rfl, hall, rfl⟩ := hrel
    have HALL := hide hall
    clear hall
    have hk0 : (0 : Int) ≤ (k : Int) := by omega
    by_cases hlt : k < m
    · obtain ⟨x, hx⟩ : ∃ x, S[k]? = some x := ⟨_, List.getElem?_eq_getElem (by rw [← HM.out]; exact hlt)⟩
      have HX := hide hx
      obtain ⟨g2, o2, e2, _, d0, d1, d2, d3⟩ := rowS_at HL.out hx
      injection e2 with e2
      injection e2 with e2 e3
      subst e2 e3
      have hltz : (k : Int) < (m : Int) := by omega
      clear hx
      by_cases hb : x.lo < t
      · have hn2 := hide (show ∀ s ∈ S.take (k + 1), s.lo < t by
          intro s hs
          rw [take_snoc HX.out] at hs
          rcases List.mem_append.1 hs with hs | hs
          · exact HALL.out s hs
          · rw [List.mem_singleton.1 hs]; exact hb)
        go_wp2
        refine ⟨⟨k + 1, by omega, by go_num, hn2.out, by first | exact rfl | trivial⟩, ?_⟩
        simp [intOf]; omega
      · have hge := hide (show ∀ y, S[k]? = some y → t ≤ y.lo from fun y hy => by rw [HX.out] at hy; injection hy with hy; rw [← hy]; omega)
        have hkc : (k : Int) ≤ (c : Int) := by omega
        go_wp2
        go_ret
        exact ⟨k, by omega, rfl, HALL.out, hge.out, rfl⟩
    · obtain rfl : k = m := by omega
      have hge := hide (show ∀ y, S[k]? = some y → t ≤ y.lo from fun y hy => by have := (List.getElem?_eq_some_iff.1 hy).1; have := HM.out; omega)
      have hkc : (k : Int) ≤ (c : Int) := by omega
      go_wp2
      go_ret
      exact ⟨k, by omega, rfl, HALL.out, hge.out, rfl⟩
set_option maxHeartbeats 16000000 in
/-- A pair is taken. -/
theorem jtake_any {W : World} {bo : Nat} {v : Value} {S : List St} {x y : St} {P Q : Nat → Prop} (hb : Bx1 W bo v) (ho : Own elS W v S) (hnb : v.ownBlock ≠ some bo) (hx : Rok W P x.p x.c x.row) (hy : Rok W Q y.p y.c y.row)
    (hl : S.length ≤ 1099511627776) (hov : overP ⟨x.lo, x.hi⟩ ⟨y.lo, y.hi⟩ = ⟨max x.lo y.lo, min x.hi y.hi⟩) (hrl : x.row.length + y.row.length ≤ 1099511627776) (hn1 : 0 ≤ x.n ∧ x.n ≤ 1099511627776) (hn2 : 0 ≤ y.n ∧ y.n ≤ 4194304) :
    Calls Tryz.prog 56 #[.agg #[.int .i64 x.lo, .int .i64 x.hi, .slice x.p x.row.length x.c, .int .i64 x.n], .agg #[.int .i64 y.lo, .int .i64 y.hi, .slice y.p y.row.length y.c, .int .i64 y.n], .pointer (some ⟨bo, 0, none⟩)] W
      fun e W' => e = .returned (.tuple #[]) ∧ ∃ v' p c, Bx1 W' bo v' ∧ Own elS W' v' (S ++ [pairS p c x y]) ∧ Rok W' (fun k => W.heap.size ≤ k ∧ v'.ownBlock ≠ some k) p c (x.row ++ y.row) ∧ Fr W W' (fun k => k = bo ∨ v.ownBlock = some k) ∧ Fresh W v v' := by
  obtain ⟨gx, hgx⟩ : ∃ gx, gx = W.heap.size := ⟨_, rfl⟩
  obtain ⟨W1, hW1⟩ : ∃ W1, W1 = W.alloc (.cells #[.int .i64 x.lo, .int .i64 x.hi, .slice x.p x.row.length x.c, .int .i64 x.n] 79) := ⟨_, rfl⟩
  obtain ⟨W2, hW2⟩ : ∃ W2, W2 = W1.alloc (.cells #[.int .i64 y.lo, .int .i64 y.hi, .slice y.p y.row.length y.c, .int .i64 y.n] 79) := ⟨_, rfl⟩
  have f1 : Fr W W1 (fun _ => False) := by rw [hW1]; exact Fr.alloc _ _ _
  have f2 : Fr W1 W2 (fun _ => False) := by rw [hW2]; exact Fr.alloc _ _ _
  have z1 : W1.heap.size = gx + 1 := by rw [hW1, hgx]; simp
  have t1 : Four W1 gx (.int .i64 x.lo) (.int .i64 x.hi) (.slice x.p x.row.length x.c) (.int .i64 x.n) := by rw [hW1, hgx]; exact four_of (heap_alloc_new W _)
  have t2 : Four W2 (gx + 1) (.int .i64 y.lo) (.int .i64 y.hi) (.slice y.p y.row.length y.c) (.int .i64 y.n) := by rw [hW2, ← z1]; exact four_of (heap_alloc_new W1 _)
  have HB := hide hb
  have HO := hide ho
  have HNB := hide hnb
  have HX := hide hx
  have HY := hide hy
  have HL := hide hl
  have HOV := hide (overlap_any ⟨x.lo, x.hi⟩ ⟨y.lo, y.hi⟩)
  have HOP := hide hov
  have HRL := hide hrl
  have HN1 := hide hn1
  have HN2 := hide hn2
  have HT1 := hide (t1.fr f2 (fun h => h))
  have HT2 := hide t2
  have HF2 := hide ((f1.trans f2).mono (Y := fun _ => False) (by simp))
  have HW1 := hide hW1
  have HW2 := hide hW2
  have HGX := hide hgx
  have x0 := HT1.out.1
  have x1 := HT1.out.2.1
  have x2 := HT1.out.2.2.1
  have x3 := HT1.out.2.2.2.1
  have x4 := HT1.out.2.2.2.2
  have y0 := HT2.out.1
  have y1 := HT2.out.2.1
  have y2 := HT2.out.2.2.1
  have y3 := HT2.out.2.2.2.1
  have y4 := HT2.out.2.2.2.2
  rw [hW2, hW1] at x0 x1 x2 x3 x4 y0 y1 y2 y3 y4
  rw [hgx] at x0 x1 x2 x3 x4 y0 y1 y2 y3 y4
  clear hb ho hnb hx hy hl hov hrl hn1 hn2 f1 f2 z1 t1 t2 hW1 hW2 hgx
  unfold perV at HOV
  go_enter Tryz.func56, Tryz.ntmps56
  go_wp2_with fail
  rw [← HW1.out, ← HW2.out, ← HGX.out]
  refine (HOV.out W2).mono ?_
  rintro e W3 ⟨rfl, f3⟩
  rw [HOP.out]
  obtain ⟨lo, hlo⟩ : ∃ lo, lo = max x.lo y.lo := ⟨_, rfl⟩
  obtain ⟨hi, hhi⟩ : ∃ hi, hi = min x.hi y.hi := ⟨_, rfl⟩
  simp only
  rw [← hlo, ← hhi]
  have HF3 := hide ((HF2.out.trans f3).mono (Y := fun _ => False) (by simp))
  have HX3 := hide (HT1.out.fr f3 (fun h => h))
  have HY3 := hide (HT2.out.fr f3 (fun h => h))
  obtain ⟨gp, hgp⟩ : ∃ gp, gp = W3.heap.size := ⟨_, rfl⟩
  obtain ⟨W4, hW4⟩ : ∃ W4, W4 = W3.alloc (.cells #[.int .i64 lo, .int .i64 hi] 24) := ⟨_, rfl⟩
  have f4 : Fr W3 W4 (fun _ => False) := by rw [hW4]; exact Fr.alloc _ _ _
  have HTPW := hide (show Two W4 gp (.int .i64 lo) (.int .i64 hi) by rw [hW4, hgp]; exact two_of (heap_alloc_new W3 _))
  have HXW := hide (HX3.out.fr f4 (fun h => h))
  have HYW := hide (HY3.out.fr f4 (fun h => h))
  have HF4 := hide ((HF3.out.trans f4).mono (Y := fun _ => False) (by simp))
  have HW4 := hide hW4
  have HGP := hide hgp
  have HLO := hide hlo
  have HHI := hide hhi
  have k0 := HTPW.out.1
  have k1 := HTPW.out.2.1
  have k2 := HTPW.out.2.2
  rw [hW4] at k0 k1 k2
  rw [hgp] at k0 k1 k2
  clear HOV HW1 HW2 HGX HT1 HT2 HF2 x0 x1 x2 x3 x4 y0 y1 y2 y3 y4 f3 HF3 HX3 HY3 hW4 hgp f4 hlo hhi HOP
  go_wp2_with fail
  rw [← HW4.out, ← HGP.out]
  clear k0 k1 k2 HW4
  refine wp_region_K (fun z => decide (z < 15)) (fun U : World => Fr (W4.drew) U (fun _ => False)) (by kernel_rfl) ?_
  have hS : (fun U : World => Fr (W4.drew) U (fun _ => False)) W4.drew := Fr.refl _ _
  have D1 := Fr.drew W4 (fun _ => False)
  have HFV := hide ((HF4.out.trans D1).mono (Y := fun _ => False) (by simp))
  have HTP := hide (HTPW.out.fr D1 (fun h => h))
  have HX4 := hide (HXW.out.fr D1 (fun h => h))
  have HY4 := hide (HYW.out.fr D1 (fun h => h))
  have HBO := hide (HB.out.fr HFV.out (fun h => h))
  have HWR : Hid (IntKind.i64.wrap (x.n * y.n) = x.n * y.n) := hide (wrap_fit (by have := Int.mul_nonneg HN1.out.1 HN2.out.1; omega) (by have : x.n * y.n ≤ 1099511627776 * 4194304 := Int.mul_le_mul HN1.out.2 HN2.out.2 HN2.out.1 (by omega); omega))
  clear D1 HTPW HXW HYW HF4
  generalize W4.drew = V at *
  refine wpAnyK_takeTo 0 (some 15) (v) [15, 16] rfl rfl (by kernel_rfl) (by kernel_rfl) (by kernel_rfl) (by kernel_rfl) (fun _ _ _ h => h) hS (Or.inl ⟨rfl, fun w1 hw1 => by have q0 := (HBO.out.fr hw1 (fun h => h)).1; have q1 := (HTP.out.fr hw1 (fun h => h)).1; have q2 := (HTP.out.fr hw1 (fun h => h)).2.1; go_simp⟩) ?_
  simp only [Act.put, List.setIfInBounds_toArray, List.set_cons_zero, List.set_cons_succ]
  refine wpAnyK_takeTo 1 (some 16) ((.agg #[.int .i64 lo, .int .i64 hi])) [13, 14, 15, 16] rfl rfl (by kernel_rfl) (by kernel_rfl) (by kernel_rfl) (by kernel_rfl) (fun _ _ _ h => h) hS (Or.inl ⟨rfl, fun w1 hw1 => by have q0 := (HBO.out.fr hw1 (fun h => h)).1; have q1 := (HTP.out.fr hw1 (fun h => h)).1; have q2 := (HTP.out.fr hw1 (fun h => h)).2.1; go_simp⟩) ?_
  simp only [Act.put, List.setIfInBounds_toArray, List.set_cons_zero, List.set_cons_succ]
  refine wpAnyK_takeTo 2 (some 17) (.pointer (some ⟨gx, 2, none⟩)) [3, 6, 7, 13, 14, 15, 16] rfl rfl (by kernel_rfl) (by kernel_rfl) (by kernel_rfl) (by kernel_rfl) (fun _ _ _ h => h) hS (Or.inl ⟨rfl, fun w1 hw1 => by go_simp⟩) ?_
  simp only [Act.put, List.setIfInBounds_toArray, List.set_cons_zero, List.set_cons_succ]
  refine wpAnyK_takeTo 3 (some 18) (.slice x.p x.row.length x.c) [6, 7, 13, 14, 15, 16] rfl rfl (by kernel_rfl) (by kernel_rfl) (by kernel_rfl) (by kernel_rfl) (fun _ _ _ h => h) hS (Or.inl ⟨rfl, fun w1 hw1 => by have q0 := (HX4.out.fr hw1 (fun h => h)); have q2 := q0.2.2.1; have q3 := q0.2.2.2.1; clear q0; go_simp⟩) ?_
  simp only [Act.put, List.setIfInBounds_toArray, List.set_cons_zero, List.set_cons_succ]
  refine wpAnyK_takeTo 4 (some 19) (.pointer (some ⟨gx + 1, 2, none⟩)) [5, 6, 7, 13, 14, 15, 16] rfl rfl (by kernel_rfl) (by kernel_rfl) (by kernel_rfl) (by kernel_rfl) (fun _ _ _ h => h) hS (Or.inl ⟨rfl, fun w1 hw1 => by go_simp⟩) ?_
  simp only [Act.put, List.setIfInBounds_toArray, List.set_cons_zero, List.set_cons_succ]
  refine wpAnyK_takeTo 5 (some 20) (.slice y.p y.row.length y.c) [6, 7, 13, 14, 15, 16] rfl rfl (by kernel_rfl) (by kernel_rfl) (by kernel_rfl) (by kernel_rfl) (fun _ _ _ h => h) hS (Or.inl ⟨rfl, fun w1 hw1 => by have q0 := (HY4.out.fr hw1 (fun h => h)); have q2 := q0.2.2.1; have q3 := q0.2.2.2.1; clear q0; go_simp⟩) ?_
  simp only [Act.put, List.setIfInBounds_toArray, List.set_cons_zero, List.set_cons_succ]
  refine wpAnyK_takeTo 8 (some 23) (.pointer (some ⟨gx, 3, none⟩)) [9, 12, 13, 14, 15, 16] rfl rfl (by kernel_rfl) (by kernel_rfl) (by kernel_rfl) (by kernel_rfl) (fun _ _ _ h => h) hS (Or.inl ⟨rfl, fun w1 hw1 => by go_simp⟩) ?_
  simp only [Act.put, List.setIfInBounds_toArray, List.set_cons_zero, List.set_cons_succ]
  refine wpAnyK_takeTo 9 (some 24) (.int .i64 x.n) [12, 13, 14, 15, 16] rfl rfl (by kernel_rfl) (by kernel_rfl) (by kernel_rfl) (by kernel_rfl) (fun _ _ _ h => h) hS (Or.inl ⟨rfl, fun w1 hw1 => by have q0 := (HX4.out.fr hw1 (fun h => h)); have q2 := q0.2.2.1; have q3 := q0.2.2.2.1; clear q0; go_simp⟩) ?_
  simp only [Act.put, List.setIfInBounds_toArray, List.set_cons_zero, List.set_cons_succ]
  refine wpAnyK_takeTo 10 (some 25) (.pointer (some ⟨gx + 1, 3, none⟩)) [11, 12, 13, 14, 15, 16] rfl rfl (by kernel_rfl) (by kernel_rfl) (by kernel_rfl) (by kernel_rfl) (fun _ _ _ h => h) hS (Or.inl ⟨rfl, fun w1 hw1 => by go_simp⟩) ?_
  simp only [Act.put, List.setIfInBounds_toArray, List.set_cons_zero, List.set_cons_succ]
  refine wpAnyK_takeTo 11 (some 26) (.int .i64 y.n) [12, 13, 14, 15, 16] rfl rfl (by kernel_rfl) (by kernel_rfl) (by kernel_rfl) (by kernel_rfl) (fun _ _ _ h => h) hS (Or.inl ⟨rfl, fun w1 hw1 => by have q0 := (HY4.out.fr hw1 (fun h => h)); have q2 := q0.2.2.1; have q3 := q0.2.2.2.1; clear q0; go_simp⟩) ?_
  simp only [Act.put, List.setIfInBounds_toArray, List.set_cons_zero, List.set_cons_succ]
  refine wpAnyK_takeTo 12 (some 27) (.int .i64 (x.n * y.n)) [13, 14, 15, 16] rfl rfl (by kernel_rfl) (by kernel_rfl) (by kernel_rfl) (by kernel_rfl) (fun _ _ _ h => h) hS (Or.inl ⟨rfl, fun w1 hw1 => by have hw := HWR.out; go_simp⟩) ?_
  simp only [Act.put, List.setIfInBounds_toArray, List.set_cons_zero, List.set_cons_succ]
  obtain ⟨R, hR⟩ : ∃ R : List Rw, R = [⟨x.p, x.c, x.row⟩, ⟨y.p, y.c, y.row⟩] := ⟨_, rfl⟩
  obtain ⟨W5, hW5⟩ : ∃ W5, W5 = V.alloc (.cells #[.slice x.p x.row.length x.c, .slice y.p y.row.length y.c] 45) := ⟨_, rfl⟩
  obtain ⟨g5, hg5⟩ : ∃ g5, g5 = V.heap.size := ⟨_, rfl⟩
  have f5 : Fr V W5 (fun _ => False) := by rw [hW5]; exact Fr.alloc _ _ _
  have hrow : Row elR W5 (some ⟨g5, 0, none⟩) R := by rw [hW5, hg5, hR]; exact Row.new elR V _ _ rfl
  have hcat : catR R = x.row ++ y.row := by rw [hR]; simp [catR]
  have HCN := concat_any (P := fun _ => True) (cl := 2) hrow (fun r hr => by
    rw [hR] at hr
    simp only [List.mem_cons, List.not_mem_nil, or_false] at hr
    rcases hr with rfl | rfl
    · exact ((HX.out.fr HFV.out (fun _ _ _ h => h)).fr f5 (fun _ _ _ h => h)).mono (fun _ _ _ => trivial)
    · exact ((HY.out.fr HFV.out (fun _ _ _ h => h)).fr f5 (fun _ _ _ h => h)).mono (fun _ _ _ => trivial)) (by rw [hcat, List.length_append]; exact HRL.out) (by rw [hR]; simp)
  rw [show R.length = 2 by rw [hR]; rfl, hcat] at HCN
  have HCC := hide HCN
  have HV5 := hide f5
  have HW5 := hide hW5
  have HG5 := hide hg5
  clear hR hW5 hg5 f5 hrow hcat HCN
  refine wpAnyK_one (i := 6) (by kernel_rfl) rfl rfl ?_
  go_simp
  rw [← HW5.out, ← HG5.out]
  refine ⟨HV5.out, ?_⟩
  refine wpAnyK_one (i := 7) (by kernel_rfl) rfl rfl ?_
  refine wp_call_to (some 22) rfl 58 #[.slice (some ⟨g5, 0, none⟩) 2 2] (by go_simp) HCC.out ?_
  rintro e W6 ⟨p, c, rfl, hrk, f6⟩
  have HV6 : Hid (Fr V W6 (fun _ => False)) := hide ((HV5.out.trans f6).mono (by simp))
  have HRK := hide (hrk.mono (Q := fun k => V.heap.size ≤ k ∧ v.ownBlock ≠ some k) (fun k hk h => ⟨by have := HV5.out.size; omega, fun e => by have := HO.out.lt e; have h1 := HFV.out.size; have h2 := HV5.out.size; omega⟩))
  have HLR := hide (show (x.row ++ y.row).length ≤ 1099511627776 by rw [List.length_append]; exact HRL.out)
  obtain ⟨n, hn⟩ : ∃ n, n = (x.row ++ y.row).length := ⟨_, rfl⟩
  have HN := hide hn
  rw [← hn]
  clear hrk f6 HCC HW5 HG5 hn
  refine ⟨_, rfl, fun _ => HV6.out, ?_⟩
  simp only [Act.put, List.setIfInBounds_toArray, List.set_cons_zero, List.set_cons_succ]
  have hS6 : (fun U : World => Fr V U (fun _ => False)) W6 := HV6.out
  refine wpAnyK_takeTo 13 (some 28) ((.agg #[.int .i64 lo, .int .i64 hi, .slice p n c, .int .i64 (x.n * y.n)])) [14, 15, 16] rfl rfl (by kernel_rfl) (by kernel_rfl) (by kernel_rfl) (by kernel_rfl) (fun _ _ _ h => h) hS6 (Or.inl ⟨rfl, fun w1 hw1 => by go_simp⟩) ?_
  simp only [Act.put, List.setIfInBounds_toArray, List.set_cons_zero, List.set_cons_succ]
  obtain ⟨W7, hW7⟩ : ∃ W7, W7 = W6.alloc (.cells #[.int .i64 lo, .int .i64 hi, .slice p n c, .int .i64 (x.n * y.n)] 79) := ⟨_, rfl⟩
  obtain ⟨g7, hg7⟩ : ∃ g7, g7 = W6.heap.size := ⟨_, rfl⟩
  have f7 : Fr W6 W7 (fun _ => False) := by rw [hW7]; exact Fr.alloc _ _ _
  have HV7 : Hid (Fr V W7 (fun _ => False)) := hide ((HV6.out.trans f7).mono (by simp))
  have HROW7 := hide (show Row elS W7 (some ⟨g7, 0, none⟩) [pairS p c x y] by
    rw [hW7, hg7]
    refine Row.new elS W6 _ _ ?_
    rw [HLO.out, HHI.out, HN.out]
    rfl)
  have HRK7 := hide (HRK.out.fr f7 (fun _ _ _ h => h))
  have HO7 := hide ((HO.out.fr HFV.out (fun _ _ h => h)).fr HV7.out (fun _ _ h => h))
  have HW7 := hide hW7
  have HG7 := hide hg7
  clear hW7 hg7 f7 hS6 HRK
  refine wpAnyK_one (i := 14) (by kernel_rfl) rfl rfl ?_
  go_simp
  rw [← HW7.out, ← HG7.out]
  refine ⟨HV7.out, ?_⟩
  refine wpAnyK_one (i := 15) (by kernel_rfl) rfl rfl ?_
  refine wp_cat elS (.tmp 15) (.tmp 29) rfl (some 30) rfl v S rfl HO7.out (some ⟨g7, 0, none⟩) 1 1 [pairS p c x y] rfl rfl HROW7.out (by simp) (by have := HL.out; omega) ?_
  intro v' V8 ho hf hr
  refine ⟨fun h => absurd h (by decide), ?_⟩
  simp only [Act.put, List.setIfInBounds_toArray, List.set_cons_zero, List.set_cons_succ]
  have hb8 := (HBO.out.fr HV7.out (fun h => h)).fr hf HNB.out
  have z0 := hb8.1
  have z1 := hb8.2
  have HB8 := hide hb8
  have HO8 := hide ho
  have HF8 := hide (((HFV.out.trans HV7.out).trans hf).mono (Y := fun k => v.ownBlock = some k) (by rintro k _ ((h | h) | h); exact h.elim; exact h.elim; exact h))
  have HFR := hide (show Fresh W v v' by rcases hr with h | ⟨q, h1, h2⟩; exact .inl h; exact .inr ⟨q, h1, Nat.le_trans HFV.out.size (Nat.le_trans HV7.out.size h2)⟩)
  have HNB8 := hide (show ¬ v'.ownBlock = some bo from fun e => by
    rcases hr with h | ⟨q, h1, h2⟩
    · exact HNB.out (by rw [← h]; exact e)
    · rw [h1] at e; injection e with e; subst e
      have h3 := HB.out.lt
      have h4 := HFV.out.size
      have h5 := HV7.out.size
      omega)
  have HRK8 := hide (show Rok V8 (fun k => V.heap.size ≤ k ∧ v'.ownBlock ≠ some k) p c (x.row ++ y.row) by
    have k2 : Rok W7 (fun k => V.heap.size ≤ k ∧ v.ownBlock ≠ some k ∧ v'.ownBlock ≠ some k) p c (x.row ++ y.row) := HRK7.out.mono (fun k hk hh => ⟨hh.1, hh.2, fun e => by
      rcases hr with h2 | ⟨q, h2, h3⟩
      · exact hh.2 (by rw [← h2]; exact e)
      · rw [h2] at e; injection e with e; omega⟩)
    exact (k2.fr hf (fun k _ hk e => hk.2.1 e)).mono (fun k _ hk => ⟨hk.1, hk.2.2⟩))
  obtain ⟨a3, c3, hv3, _⟩ := ho.shape
  obtain ⟨n3, hn3⟩ : ∃ n3, n3 = (S ++ [pairS p c x y]).length := ⟨_, rfl⟩
  rw [← hn3] at hv3
  clear ho hf hr hb8 hn3
  subst hv3
  refine wpAnyK_one (i := 16) (by kernel_rfl) rfl rfl ?_
  go_simp
  refine wpAnyK_done (by kernel_rfl) ?_ _
  go_wp2
  go_end0
  have FF := Fr.setCell V8 ⟨bo, 0, none⟩ (.slice a3 n3 c3)
  have hbl := HB.out.lt
  have hvs := HFV.out.size
  refine ⟨rfl, _, p, c, HB8.out.set _, HO8.out.fr FF (fun k hk e => HNB8.out (by rw [hk]; exact congrArg some e)), (HRK8.out.fr FF (fun k _ hk e => ?_)).mono (fun k _ hk => ⟨by have := hk.1; omega, hk.2⟩), (fr_set HF8.out bo 0 _).mono (by rintro k _ (h | h); exact .inr h; exact .inl h), HFR.out⟩
  have h1 := hk.1
  simp only at e
  omega
end Go.Proofs.YtlapifncplbcnaaGreat
