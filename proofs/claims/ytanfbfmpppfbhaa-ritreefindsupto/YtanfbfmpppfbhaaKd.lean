/- RitreeFinds: the walk. -/
import Derived.Test.YtanfbfmpppfbhaaKp
import Derived.Test.YtanfbfmpppfbhaaKo
import Derived.Test.YtanfbfmpppfbhaaKb
namespace Go.Proofs.Ytanfbfmpppfbhaa
open Go.RowKit
set_option maxRecDepth 100000
set_option linter.unusedVariables false
set_option linter.unusedSimpArgs false

theorem head_of {L : List Itm} {A : List Int} {q : Per} (h : OvA L q A) (hm : ∀ p ∈ L, -1 ≤ p.id) (hin : -1 ∈ A) : ∃ B, A = -1 :: B := by
  cases A with
  | nil => cases hin
  | cons x B =>
    rcases List.mem_cons.1 hin with e | hb
    · exact ⟨B, by rw [e]⟩
    · have h1 := (List.pairwise_cons.1 h.1).1 _ hb
      obtain ⟨p, hp, e, _⟩ := (h.2 x).1 (List.mem_cons_self ..)
      have := hm p hp
      omega
theorem head_not {A : List Int} {x : Int} (h : A[0]? = some x) (hn : -1 ∉ A) : x ≠ -1 := fun e => hn (by rw [← e]; exact List.mem_of_getElem? h)
/-- A call of Stab, its blocks said. -/
theorem stab_in {w : World} {base gt N : Nat} {L : List Itm} {X : Nat → Prop} (h : RT w base gt N L X) (x : Int) (hx : instB x = true) (hN : N ≤ 17179869184) (hbw : base ≤ w.heap.size) :
    Calls Try.prog 22 #[.pointer (some ⟨gt, 0, none⟩), .int .i64 x] w fun e w' => ∃ (v : Value) (A : List Int), e = .returned (.tuple #[v, .int .i64 0]) ∧ OwnI w' v A ∧ OvA L ⟨x, x + 1⟩ A ∧ RT w' base gt (N + 42) L X ∧ Fr w w' X := by
  refine (stab_any h x hN hbw).mono ?_
  rintro e w' (⟨_, v, A, rfl, r1, r2, r3, r4, r5, r6⟩ | ⟨h, _⟩)
  · have hr := inst_right hx
    exact ⟨v, A, by rw [codeP_ok _ hr], r1, r2 hr, r5, r6⟩
  · rw [hx] at h; cases h
set_option maxHeartbeats 16000000 in
theorem finds_walk (p q : Per) (a : Option Addr) (n c : Nat) (L : List Per) (hL : L.length = n) (hn : n ≤ 1048576) (w : World) (hP : PersIn (fun k => k < w.heap.size) w a L) : Calls Try.prog 5 #[perV p, perV q, .slice a n c] w fun e w' => e = .returned (.bool true) ∧ Fr w w' (fun _ => False) := by
  obtain ⟨g, hg⟩ : ∃ g, g = w.heap.size := ⟨_, rfl⟩
  obtain ⟨wa, hw1⟩ : ∃ w1, w1 = w.alloc (.cells (cellsP p).toArray 23) := ⟨_, rfl⟩
  obtain ⟨g2, hg2⟩ : ∃ g2, g2 = wa.heap.size := ⟨_, rfl⟩
  obtain ⟨wb, hw2⟩ : ∃ w2, w2 = wa.alloc (.cells (cellsP q).toArray 23) := ⟨_, rfl⟩
  have f1 : Fr w wa (fun _ => False) := by rw [hw1]; exact Fr.alloc w _ _
  have f2 : Fr wa wb (fun _ => False) := by rw [hw2]; exact Fr.alloc wa _ _
  have b1 : Two wa g (.int .i64 p.lo) (.int .i64 p.hi) := by rw [hw1, hg]; exact two_of (heap_alloc_new w _)
  have b2 : Two wb g2 (.int .i64 q.lo) (.int .i64 q.hi) := by rw [hw2, hg2]; exact two_of (heap_alloc_new wa _)
  have b1 := b1.fr f2 (fun h => h)
  have HAW := hide (awake_any wb)
  have HCP := hide (check_any p)
  have HCQ := hide (check_any q)
  have HOV := hide (overlap_any p q)
  have HOB := hide (fun h1 h2 => overB_iff (p := p) (q := q) h1 h2)
  have HKP := hide (And.intro (fun h => codeP_ok p h) (fun h => codeP_no p h))
  have HKQ := hide (And.intro (fun h => codeP_ok q h) (fun h => codeP_no q h))
  obtain ⟨lo, hi⟩ := p
  obtain ⟨lo2, hi2⟩ := q
  have HFW := hide ((f1.trans f2).mono (Y := fun _ => False) (by simp))
  have HB1 := hide b1
  have HB2 := hide b2
  have HW2 : Hid (wb = (w.alloc (.cells (cellsP ⟨lo, hi⟩).toArray 23)).alloc (.cells (cellsP ⟨lo2, hi2⟩).toArray 23)) := hide (by rw [hw2, hw1])
  have HG := hide hg
  have HG2 : Hid (g2 = w.heap.size + 1) := hide (by rw [hg2, hw1]; simp)
  have HL := hide hL
  have HPI := hide hP
  clear f1 f2 b1 b2 hw1 hg hw2 hg2 hL hP
  unfold perV cellsP at *
  go_enter Try.func5, Try.ntmps5
  go_wp2_with (rw [← HW2.out, ← HG2.out, ← HG.out]; clear HW2)
  refine HAW.out.mono ?_
  rintro e w1 ⟨rfl, f3⟩
  have HT1 := hide (HB1.out.fr f3 (fun h => h))
  have HT2 := hide (HB2.out.fr f3 (fun h => h))
  have HF1 := hide ((HFW.out.trans f3).mono (Y := fun _ => False) (by simp))
  have HNW := hide (new_ra w1)
  clear f3 HAW HB1 HB2 HFW
  go_wp2_with fail
  refine HNW.out.mono ?_
  rintro e w2 ⟨gt, rfl, hra⟩
  have HRA0 := hide hra
  clear hra HNW
  go_wp2
  go_loopw [24] (fun i wr => ∃ j : Nat, i = .int .i64 (j : Int) ∧ j ≤ n ∧ RA w1 gt j (its 1 L j) wr) (fun i _ => n - (intOf i).toNat)
  case atStart => exact ⟨0, rfl, Nat.zero_le _, HRA0.out⟩
  case round =>
    rename World => w8
    obtain ⟨j, rfl, hj, hra⟩ := hrel
    have HRJ := hide hra
    clear hra
    by_cases hlt : j < n
    · obtain ⟨y, hy⟩ : ∃ y, L[j]? = some y := ⟨_, List.getElem?_eq_getElem (by rw [HL.out]; exact hlt)⟩
      obtain ⟨ga, off, rfl, hga, c0, c1⟩ := (HPI.out.fr HF1.out (fun _ _ h => h)).fr HRJ.out.fr (fun _ _ h => h) j y hy
      have HITS := hide (its_succ 1 hy)
      clear hy
      go_wp2_with fail
      refine (HRJ.out.add (Fr.alloc w8 _ (fun _ => False)) ((j : Int) + 1) y.lo y.hi ⟨by omega, by omega⟩ (by omega)).mono ?_
      rintro e w9 ⟨f9, hcase⟩
      have HRES : Hid (∃ co : Int, e = .returned (.int .i64 co) ∧ RA w1 gt (j + 1) (its 1 L (j + 1)) w9) := hide (by
        rw [HITS.out]
        rcases hcase with ⟨r, rfl, ra⟩ | ⟨r, ⟨z, hz, hzi⟩, rfl, ra⟩ | ⟨r, hno, rfl, ra⟩
        · have r' : rightB y = false := r
          exact ⟨40, rfl, by rw [if_neg (by rw [r']; simp), List.append_nil]; exact ra.mono (by omega)⟩
        · obtain ⟨i, hi, e1, _⟩ := its_mem hz
          have hzi : z.id = (j : Int) + 1 := hzi
          omega
        · have r' : rightB y = true := r
          refine ⟨0, rfl, ?_⟩
          rw [if_pos r', Int.add_comm]
          exact ra)
      clear f9 hcase c0 c1 HITS
      obtain ⟨co, rfl, hra9⟩ := HRES.out
      have HRA9 := hide hra9
      clear hra9 HRES
      go_wp2
      go_roundw
      case rel => exact ⟨j + 1, by go_num, by omega, HRA9.out⟩
      case measure => simp [intOf]; omega
    · obtain rfl : j = n := by omega
      have HM : Hid (∀ z ∈ its 1 L j, 1 ≤ z.id) := hide (fun z hz => by obtain ⟨i, _, e, _⟩ := its_mem hz; omega)
      have HT8 := hide (HT1.out.fr HRJ.out.fr (fun h => h))
      have d0 := HT8.out.1
      have d1 := HT8.out.2.1
      have HAD := hide (HRJ.out.add (Fr.refl w8 (fun _ => False)) (-1) lo hi ⟨by omega, by omega⟩ (by omega))
      go_wp2_with fail
      refine HAD.out.mono ?_
      rintro e w9 ⟨f9, hcase⟩
      by_cases hr : rightB ⟨lo, hi⟩ = true
      · have HRES : Hid (e = .returned (.int .i64 0) ∧ RA w1 gt (j + 1) (its 1 L j ++ [⟨-1, lo, hi⟩]) w9) := hide (by
          rcases hcase with ⟨r, _⟩ | ⟨r, ⟨z, hz, hzi⟩, _⟩ | ⟨r, hno, rfl, ra⟩
          · have r' : rightB ⟨lo, hi⟩ = false := r
            rw [hr] at r'; cases r'
          · have := HM.out z hz
            have hzi : z.id = -1 := hzi
            omega
          · exact ⟨rfl, ra⟩)
        have HR := hide hr
        obtain ⟨rfl, ra⟩ := HRES.out
        have HRA := hide ra
        have HT9 := hide (HT2.out.fr ra.fr (fun h => h))
        have HT1' := hide (HT1.out.fr ra.fr (fun h => h))
        have e0 := HT9.out.1
        have e1 := HT9.out.2.1
        have HVR := hide (ra.over (Fr.refl w9 (fun _ => False)) lo2 hi2 (by omega))
        clear hcase f9 HRES ra hr HAD d0 d1
        go_wp2_with fail
        refine HVR.out.mono ?_
        rintro e w10 ⟨f10, ra10, v, A, rfl, o1, o2, o3, o4⟩
        obtain ⟨cq, hcq⟩ : ∃ cq, cq = codeP ⟨lo2, hi2⟩ := ⟨_, rfl⟩
        rw [← hcq] at HKQ HCQ ⊢
        have HR10 := hide ra10
        have HTP := hide (HT1.out.fr ra10.fr (fun h => h))
        have HTQ := hide (HT2.out.fr ra10.fr (fun h => h))
        have HO := hide o1
        have HIN : Hid (rightB ⟨lo2, hi2⟩ = true → (-1 ∈ A ↔ overB ⟨lo, hi⟩ ⟨lo2, hi2⟩ = true)) := hide (fun hq => by
          rw [(o2 hq).2, HOB.out HR.out hq]
          simp only []
          constructor
          · rintro ⟨z, hz, e, h1, h2⟩
            rcases List.mem_append.1 hz with hz | hz
            · have := HM.out z hz; omega
            · have : z = ⟨-1, lo, hi⟩ := by simpa using hz
              subst this
              exact ⟨h1, h2⟩
          · rintro ⟨h1, h2⟩
            exact ⟨⟨-1, lo, hi⟩, List.mem_append_right _ (by simp), rfl, h1, h2⟩)
        have HOA := hide o2
        have HNA := hide o3
        clear f10 ra10 o1 o2 o3 o4 HVR hcq e0 e1 HT9 HT1'
        have d0 := HTP.out.1
        have d1 := HTP.out.2.1
        have e0 := HTQ.out.1
        have e1 := HTQ.out.2.1
        go_wp2_with fail
        refine (HOV.out w10).mono ?_
        rintro e w11 ⟨rfl, f11⟩
        obtain ⟨x, y, hxy⟩ : ∃ x y : Int, overP ⟨lo, hi⟩ ⟨lo2, hi2⟩ = ⟨x, y⟩ := ⟨(overP ⟨lo, hi⟩ ⟨lo2, hi2⟩).lo, (overP ⟨lo, hi⟩ ⟨lo2, hi2⟩).hi, rfl⟩
        obtain ⟨ob, hob⟩ : ∃ ob, ob = overB ⟨lo, hi⟩ ⟨lo2, hi2⟩ := ⟨_, rfl⟩
        rw [hxy, ← hob]
        rw [← hob] at HIN
        simp only []
        obtain ⟨W12, hW12⟩ : ∃ W12, W12 = w11.alloc (.cells #[.int .i64 x, .int .i64 y] 23) := ⟨_, rfl⟩
        have f12 : Fr w10 W12 (fun _ => False) := by rw [hW12]; exact (f11.trans (Fr.alloc w11 _ (fun _ => False))).mono (by simp)
        have HW12 := hide hW12
        have HRA12 := hide (HR10.out.fresh f12)
        have HTP := hide (HTP.out.fr f12 (fun h => h))
        have HTQ := hide (HTQ.out.fr f12 (fun h => h))
        have HO := hide (HO.out.fr f12 (fun _ _ h => h))
        clear hxy f11 hW12 f12 HOV HR10 d0 d1 e0 e1 hob
        have d0 := HTP.out.1
        have d1 := HTP.out.2.1
        have e0 := HTQ.out.1
        have e1 := HTQ.out.2.1
        have HHI : Hid (0 ≤ lo ∧ lo < hi ∧ hi ≤ 1099511627776) := hide ((rightB_iff _).1 HR.out)
        obtain ⟨hr1, hr2, hr3⟩ := HHI.out
        by_cases hq : rightB ⟨lo2, hi2⟩ = true
        · have hcq0 : cq = 0 := HKQ.out.1 hq
          subst hcq0
          have HIN := hide (HIN.out hq)
          have HOA := hide (HOA.out hq)
          clear hq
          cases ob with
          | true =>
            have hin : -1 ∈ A := HIN.out.2 rfl
            obtain ⟨B, rfl⟩ := head_of HOA.out (fun z hz => by
              rcases List.mem_append.1 hz with hz | hz
              · have := HM.out z hz; omega
              · have : z = ⟨-1, lo, hi⟩ := by simpa using hz
                subst this
                simp only []
                omega) hin
            obtain ⟨gl, kl, rfl, hcl⟩ : ∃ gl kl, v = .slice (some ⟨gl, 0, none⟩) (B.length + 1) kl ∧ W12.cell? ⟨gl, 0, none⟩ = some (.int .i64 (-1)) := by
              obtain ⟨a5, k5, rfl, _⟩ := HO.out.shape
              obtain ⟨g5, rfl, h⟩ := HO.out.at 0 (-1) rfl
              exact ⟨g5, k5, rfl, h⟩
            obtain ⟨nl, hnl⟩ : ∃ nl, nl = B.length + 1 := ⟨_, rfl⟩
            rw [← hnl]
            have hnl1 : (0 : Int) < (nl : Int) := by omega
            have hnl0 : 0 < nl := by omega
            clear hnl hin HOA HIN HNA
            go_wp2_with (rw [← HW12.out])
            have HX12 : Hid (∃ X, RT W12 w1.heap.size gt (j + 1 + 42) (its 1 L j ++ [⟨-1, lo, hi⟩]) X ∧ Fr w1 W12 (fun _ => False)) := hide HRA12.out
            obtain ⟨X, rt12, fr12⟩ := HX12.out
            have hsz12 := fr12.size
            have HXL := hide rt12.lt
            obtain ⟨gs, hgs⟩ : ∃ gs, gs = W12.heap.size := ⟨_, rfl⟩
            obtain ⟨W13, hW13⟩ : ∃ W13, W13 = W12.alloc (.cells #[.int .i64 lo, .int .i64 (hi - 1)] 2) := ⟨_, rfl⟩
            have f13 : Fr W12 W13 (fun _ => False) := by rw [hW13]; exact Fr.alloc W12 _ _
            have HGS : Hid (¬ X gs) := hide (fun h => by have := (HXL.out gs h).2; omega)
            have HS0 : Hid (RT W13 w1.heap.size gt (j + 1 + 42) (its 1 L j ++ [⟨-1, lo, hi⟩]) X ∧ Two W13 gs (.int .i64 lo) (.int .i64 (hi - 1)) ∧ Fr w1 W13 (fun _ => False)) := hide ⟨rt12.fr f13 (fun _ _ h => h), by rw [hW13, hgs]; exact two_of (heap_alloc_new W12 _), (fr12.trans f13).mono (by simp)⟩
            have HW13 := hide hW13
            have HGSE := hide hgs
            have hhi : wrap64 (hi - 1) = hi - 1 := by unfold wrap64; omega
            have HMID : Hid (∀ z ∈ its 1 L j ++ [⟨-1, lo, hi⟩], -1 ≤ z.id) := hide (fun z hz => by
              rcases List.mem_append.1 hz with hz | hz
              · have := HM.out z hz; omega
              · have : z = ⟨-1, lo, hi⟩ := by simpa using hz
                subst this
                simp only []
                omega)
            clear rt12 fr12 hsz12 hgs hW13 f13 HX12
            go_wp2_with (rw [← HW13.out, ← HGSE.out]; clear HW13 HGSE)
            go_loopw [87] (fun i wr => ∃ k : Nat, i = .int .i64 (k : Int) ∧ k ≤ 2 ∧ RT wr w1.heap.size gt (j + 1 + 42 + 42 * k) (its 1 L j ++ [⟨-1, lo, hi⟩]) X ∧ Two wr gs (.int .i64 lo) (.int .i64 (hi - 1)) ∧ Fr w1 wr (fun _ => False)) (fun i _ => 2 - (intOf i).toNat)
            case atStart => exact ⟨0, rfl, by omega, HS0.out.1, HS0.out.2.1, HS0.out.2.2⟩
            case round =>
              rename World => w14
              obtain ⟨k, rfl, hk, hrt, htw, hfr⟩ := hrel
              have HRT := hide hrt
              have HTW := hide htw
              have HFR := hide hfr
              clear hrt htw hfr
              by_cases hk2 : k < 2
              · obtain ⟨x, hcx, hx1, hx2⟩ : ∃ x : Int, w14.cell? ⟨gs, k, none⟩ = some (.int .i64 x) ∧ lo ≤ x ∧ x < hi := by
                  rcases (show k = 0 ∨ k = 1 by omega) with rfl | rfl
                  · exact ⟨lo, HTW.out.1, by omega, by omega⟩
                  · exact ⟨hi - 1, HTW.out.2.1, by omega, by omega⟩
                have hinst : instB x = true := decide_eq_true ⟨by omega, by omega⟩
                have HST := hide (stab_in HRT.out x hinst (by omega) (by have := HFR.out.size; exact this))
                clear hinst
                go_wp2_with fail
                refine HST.out.mono ?_
                rintro e w15 ⟨v5, A5, rfl, o5, ov5, rt5, f5⟩
                have hin5 : -1 ∈ A5 := (ov5.2 (-1)).2 ⟨⟨-1, lo, hi⟩, List.mem_append_right _ (by simp), rfl, by simp only []; omega, by simp only []; omega⟩
                obtain ⟨B5, rfl⟩ := head_of ov5 HMID.out hin5
                obtain ⟨g5, k5, rfl, hc5⟩ : ∃ g5 k5, v5 = .slice (some ⟨g5, 0, none⟩) (B5.length + 1) k5 ∧ w15.cell? ⟨g5, 0, none⟩ = some (.int .i64 (-1)) := by
                  obtain ⟨a5, k5, rfl, _⟩ := o5.shape
                  obtain ⟨g5, rfl, h⟩ := o5.at 0 (-1) rfl
                  exact ⟨g5, k5, rfl, h⟩
                have hlen5 : (((B5.length + 1 : Nat) : Int) == 0) = false := by simp; omega
                obtain ⟨n5, hn5⟩ : ∃ n5, n5 = B5.length + 1 := ⟨_, rfl⟩
                rw [← hn5] at hlen5 ⊢
                have hn51 : 0 < n5 := by omega
                have HS5 : Hid (RT w15 w1.heap.size gt (j + 1 + 42 + 42 * (k + 1)) (its 1 L j ++ [⟨-1, lo, hi⟩]) X ∧ Two w15 gs (.int .i64 lo) (.int .i64 (hi - 1)) ∧ Fr w1 w15 (fun _ => False)) := hide ⟨rt5.mono (by omega), HTW.out.fr f5 HGS.out, (HFR.out.trans f5).mono (fun z hz h => by rcases h with h | h; exact h; (have := (HXL.out z h).1; omega))⟩
                clear o5 ov5 rt5 f5 hin5 hn5 HST hcx HRT HTW HFR hx1 hx2
                go_wp2
                go_roundw
                case rel => exact ⟨k + 1, by go_num, by omega, HS5.out.1, HS5.out.2.1, HS5.out.2.2⟩
                case measure => simp [intOf]; omega
              · have HRE : Hid (RA w1 gt (j + 1 + 42 + 42 * k) (its 1 L j ++ [⟨-1, lo, hi⟩]) w14) := hide ⟨X, HRT.out, HFR.out⟩
                have HC1 := hide (HRE.out.cut (Fr.refl w14 (fun _ => False)) (-1) ⟨by omega, by omega⟩ (by omega))
                clear HRT HTW HFR
                go_wp2_with fail
                refine HC1.out.mono ?_
                rintro e w15 ⟨f15, ra15, ⟨hno, _⟩ | ⟨_, rfl⟩⟩
                · exact absurd rfl (hno ⟨-1, lo, hi⟩ (List.mem_append_right _ (by simp)))
                · have HC2 := hide (ra15.cut (Fr.refl w15 (fun _ => False)) (-1) ⟨by omega, by omega⟩ (by omega))
                  clear f15 ra15 HC1
                  go_wp2_with fail
                  refine HC2.out.mono ?_
                  rintro e w16 ⟨f16, ra16, ⟨_, rfl⟩ | ⟨⟨z, hz, hzi⟩, _⟩⟩
                  · have HFF : Hid (Fr w w16 (fun _ => False)) := hide ((HF1.out.trans ra16.fr).mono (by simp))
                    clear f16 ra16 HC2
                    go_wp2
                    go_ret
                    exact ⟨rfl, HFF.out⟩
                  · exact absurd hzi (by have := (List.mem_filter.1 hz).2; simpa using this)
          | false =>
            have hin : -1 ∉ A := fun h => by have := HIN.out.1 h; cases this
            cases A with
            | nil =>
              obtain ⟨al, kl, rfl, _⟩ := HO.out.shape
              clear hin HOA HIN HNA
              go_wp2_with (rw [← HW12.out])
              have HX12 : Hid (∃ X, RT W12 w1.heap.size gt (j + 1 + 42) (its 1 L j ++ [⟨-1, lo, hi⟩]) X ∧ Fr w1 W12 (fun _ => False)) := hide HRA12.out
              obtain ⟨X, rt12, fr12⟩ := HX12.out
              have hsz12 := fr12.size
              have HXL := hide rt12.lt
              obtain ⟨gs, hgs⟩ : ∃ gs, gs = W12.heap.size := ⟨_, rfl⟩
              obtain ⟨W13, hW13⟩ : ∃ W13, W13 = W12.alloc (.cells #[.int .i64 lo, .int .i64 (hi - 1)] 2) := ⟨_, rfl⟩
              have f13 : Fr W12 W13 (fun _ => False) := by rw [hW13]; exact Fr.alloc W12 _ _
              have HGS : Hid (¬ X gs) := hide (fun h => by have := (HXL.out gs h).2; omega)
              have HS0 : Hid (RT W13 w1.heap.size gt (j + 1 + 42) (its 1 L j ++ [⟨-1, lo, hi⟩]) X ∧ Two W13 gs (.int .i64 lo) (.int .i64 (hi - 1)) ∧ Fr w1 W13 (fun _ => False)) := hide ⟨rt12.fr f13 (fun _ _ h => h), by rw [hW13, hgs]; exact two_of (heap_alloc_new W12 _), (fr12.trans f13).mono (by simp)⟩
              have HW13 := hide hW13
              have HGSE := hide hgs
              have hhi : wrap64 (hi - 1) = hi - 1 := by unfold wrap64; omega
              have HMID : Hid (∀ z ∈ its 1 L j ++ [⟨-1, lo, hi⟩], -1 ≤ z.id) := hide (fun z hz => by
                rcases List.mem_append.1 hz with hz | hz
                · have := HM.out z hz; omega
                · have : z = ⟨-1, lo, hi⟩ := by simpa using hz
                  subst this
                  simp only []
                  omega)
              clear rt12 fr12 hsz12 hgs hW13 f13 HX12
              go_wp2_with (rw [← HW13.out, ← HGSE.out]; clear HW13 HGSE)
              go_loopw [87] (fun i wr => ∃ k : Nat, i = .int .i64 (k : Int) ∧ k ≤ 2 ∧ RT wr w1.heap.size gt (j + 1 + 42 + 42 * k) (its 1 L j ++ [⟨-1, lo, hi⟩]) X ∧ Two wr gs (.int .i64 lo) (.int .i64 (hi - 1)) ∧ Fr w1 wr (fun _ => False)) (fun i _ => 2 - (intOf i).toNat)
              case atStart => exact ⟨0, rfl, by omega, HS0.out.1, HS0.out.2.1, HS0.out.2.2⟩
              case round =>
                rename World => w14
                obtain ⟨k, rfl, hk, hrt, htw, hfr⟩ := hrel
                have HRT := hide hrt
                have HTW := hide htw
                have HFR := hide hfr
                clear hrt htw hfr
                by_cases hk2 : k < 2
                · obtain ⟨x, hcx, hx1, hx2⟩ : ∃ x : Int, w14.cell? ⟨gs, k, none⟩ = some (.int .i64 x) ∧ lo ≤ x ∧ x < hi := by
                    rcases (show k = 0 ∨ k = 1 by omega) with rfl | rfl
                    · exact ⟨lo, HTW.out.1, by omega, by omega⟩
                    · exact ⟨hi - 1, HTW.out.2.1, by omega, by omega⟩
                  have hinst : instB x = true := decide_eq_true ⟨by omega, by omega⟩
                  have HST := hide (stab_in HRT.out x hinst (by omega) (by have := HFR.out.size; exact this))
                  clear hinst
                  go_wp2_with fail
                  refine HST.out.mono ?_
                  rintro e w15 ⟨v5, A5, rfl, o5, ov5, rt5, f5⟩
                  have hin5 : -1 ∈ A5 := (ov5.2 (-1)).2 ⟨⟨-1, lo, hi⟩, List.mem_append_right _ (by simp), rfl, by simp only []; omega, by simp only []; omega⟩
                  obtain ⟨B5, rfl⟩ := head_of ov5 HMID.out hin5
                  obtain ⟨g5, k5, rfl, hc5⟩ : ∃ g5 k5, v5 = .slice (some ⟨g5, 0, none⟩) (B5.length + 1) k5 ∧ w15.cell? ⟨g5, 0, none⟩ = some (.int .i64 (-1)) := by
                    obtain ⟨a5, k5, rfl, _⟩ := o5.shape
                    obtain ⟨g5, rfl, h⟩ := o5.at 0 (-1) rfl
                    exact ⟨g5, k5, rfl, h⟩
                  have hlen5 : (((B5.length + 1 : Nat) : Int) == 0) = false := by simp; omega
                  obtain ⟨n5, hn5⟩ : ∃ n5, n5 = B5.length + 1 := ⟨_, rfl⟩
                  rw [← hn5] at hlen5 ⊢
                  have hn51 : 0 < n5 := by omega
                  have HS5 : Hid (RT w15 w1.heap.size gt (j + 1 + 42 + 42 * (k + 1)) (its 1 L j ++ [⟨-1, lo, hi⟩]) X ∧ Two w15 gs (.int .i64 lo) (.int .i64 (hi - 1)) ∧ Fr w1 w15 (fun _ => False)) := hide ⟨rt5.mono (by omega), HTW.out.fr f5 HGS.out, (HFR.out.trans f5).mono (fun z hz h => by rcases h with h | h; exact h; (have := (HXL.out z h).1; omega))⟩
                  clear o5 ov5 rt5 f5 hin5 hn5 HST hcx HRT HTW HFR hx1 hx2
                  go_wp2
                  go_roundw
                  case rel => exact ⟨k + 1, by go_num, by omega, HS5.out.1, HS5.out.2.1, HS5.out.2.2⟩
                  case measure => simp [intOf]; omega
                · have HRE : Hid (RA w1 gt (j + 1 + 42 + 42 * k) (its 1 L j ++ [⟨-1, lo, hi⟩]) w14) := hide ⟨X, HRT.out, HFR.out⟩
                  have HC1 := hide (HRE.out.cut (Fr.refl w14 (fun _ => False)) (-1) ⟨by omega, by omega⟩ (by omega))
                  clear HRT HTW HFR
                  go_wp2_with fail
                  refine HC1.out.mono ?_
                  rintro e w15 ⟨f15, ra15, ⟨hno, _⟩ | ⟨_, rfl⟩⟩
                  · exact absurd rfl (hno ⟨-1, lo, hi⟩ (List.mem_append_right _ (by simp)))
                  · have HC2 := hide (ra15.cut (Fr.refl w15 (fun _ => False)) (-1) ⟨by omega, by omega⟩ (by omega))
                    clear f15 ra15 HC1
                    go_wp2_with fail
                    refine HC2.out.mono ?_
                    rintro e w16 ⟨f16, ra16, ⟨_, rfl⟩ | ⟨⟨z, hz, hzi⟩, _⟩⟩
                    · have HFF : Hid (Fr w w16 (fun _ => False)) := hide ((HF1.out.trans ra16.fr).mono (by simp))
                      clear f16 ra16 HC2
                      go_wp2
                      go_ret
                      exact ⟨rfl, HFF.out⟩
                    · exact absurd hzi (by have := (List.mem_filter.1 hz).2; simpa using this)
            | cons z B =>
              have hz1 : z ≠ -1 := fun e => hin (by rw [e]; exact List.mem_cons_self ..)
              obtain ⟨gl, kl, rfl, hcl⟩ : ∃ gl kl, v = .slice (some ⟨gl, 0, none⟩) (B.length + 1) kl ∧ W12.cell? ⟨gl, 0, none⟩ = some (.int .i64 z) := by
                obtain ⟨a5, k5, rfl, _⟩ := HO.out.shape
                obtain ⟨g5, rfl, h⟩ := HO.out.at 0 z rfl
                exact ⟨g5, k5, rfl, h⟩
              obtain ⟨nl, hnl⟩ : ∃ nl, nl = B.length + 1 := ⟨_, rfl⟩
              rw [← hnl]
              have hnl1 : (0 : Int) < (nl : Int) := by omega
              have hnl0 : 0 < nl := by omega
              have hzb : (z == -1) = false := by simpa using hz1
              clear hnl hin HOA HIN HNA hz1
              go_wp2_with (rw [← HW12.out])
              have HX12 : Hid (∃ X, RT W12 w1.heap.size gt (j + 1 + 42) (its 1 L j ++ [⟨-1, lo, hi⟩]) X ∧ Fr w1 W12 (fun _ => False)) := hide HRA12.out
              obtain ⟨X, rt12, fr12⟩ := HX12.out
              have hsz12 := fr12.size
              have HXL := hide rt12.lt
              obtain ⟨gs, hgs⟩ : ∃ gs, gs = W12.heap.size := ⟨_, rfl⟩
              obtain ⟨W13, hW13⟩ : ∃ W13, W13 = W12.alloc (.cells #[.int .i64 lo, .int .i64 (hi - 1)] 2) := ⟨_, rfl⟩
              have f13 : Fr W12 W13 (fun _ => False) := by rw [hW13]; exact Fr.alloc W12 _ _
              have HGS : Hid (¬ X gs) := hide (fun h => by have := (HXL.out gs h).2; omega)
              have HS0 : Hid (RT W13 w1.heap.size gt (j + 1 + 42) (its 1 L j ++ [⟨-1, lo, hi⟩]) X ∧ Two W13 gs (.int .i64 lo) (.int .i64 (hi - 1)) ∧ Fr w1 W13 (fun _ => False)) := hide ⟨rt12.fr f13 (fun _ _ h => h), by rw [hW13, hgs]; exact two_of (heap_alloc_new W12 _), (fr12.trans f13).mono (by simp)⟩
              have HW13 := hide hW13
              have HGSE := hide hgs
              have hhi : wrap64 (hi - 1) = hi - 1 := by unfold wrap64; omega
              have HMID : Hid (∀ z ∈ its 1 L j ++ [⟨-1, lo, hi⟩], -1 ≤ z.id) := hide (fun z hz => by
                rcases List.mem_append.1 hz with hz | hz
                · have := HM.out z hz; omega
                · have : z = ⟨-1, lo, hi⟩ := by simpa using hz
                  subst this
                  simp only []
                  omega)
              clear rt12 fr12 hsz12 hgs hW13 f13 HX12
              go_wp2_with (rw [← HW13.out, ← HGSE.out]; clear HW13 HGSE)
              go_loopw [87] (fun i wr => ∃ k : Nat, i = .int .i64 (k : Int) ∧ k ≤ 2 ∧ RT wr w1.heap.size gt (j + 1 + 42 + 42 * k) (its 1 L j ++ [⟨-1, lo, hi⟩]) X ∧ Two wr gs (.int .i64 lo) (.int .i64 (hi - 1)) ∧ Fr w1 wr (fun _ => False)) (fun i _ => 2 - (intOf i).toNat)
              case atStart => exact ⟨0, rfl, by omega, HS0.out.1, HS0.out.2.1, HS0.out.2.2⟩
              case round =>
                rename World => w14
                obtain ⟨k, rfl, hk, hrt, htw, hfr⟩ := hrel
                have HRT := hide hrt
                have HTW := hide htw
                have HFR := hide hfr
                clear hrt htw hfr
                by_cases hk2 : k < 2
                · obtain ⟨x, hcx, hx1, hx2⟩ : ∃ x : Int, w14.cell? ⟨gs, k, none⟩ = some (.int .i64 x) ∧ lo ≤ x ∧ x < hi := by
                    rcases (show k = 0 ∨ k = 1 by omega) with rfl | rfl
                    · exact ⟨lo, HTW.out.1, by omega, by omega⟩
                    · exact ⟨hi - 1, HTW.out.2.1, by omega, by omega⟩
                  have hinst : instB x = true := decide_eq_true ⟨by omega, by omega⟩
                  have HST := hide (stab_in HRT.out x hinst (by omega) (by have := HFR.out.size; exact this))
                  clear hinst
                  go_wp2_with fail
                  refine HST.out.mono ?_
                  rintro e w15 ⟨v5, A5, rfl, o5, ov5, rt5, f5⟩
                  have hin5 : -1 ∈ A5 := (ov5.2 (-1)).2 ⟨⟨-1, lo, hi⟩, List.mem_append_right _ (by simp), rfl, by simp only []; omega, by simp only []; omega⟩
                  obtain ⟨B5, rfl⟩ := head_of ov5 HMID.out hin5
                  obtain ⟨g5, k5, rfl, hc5⟩ : ∃ g5 k5, v5 = .slice (some ⟨g5, 0, none⟩) (B5.length + 1) k5 ∧ w15.cell? ⟨g5, 0, none⟩ = some (.int .i64 (-1)) := by
                    obtain ⟨a5, k5, rfl, _⟩ := o5.shape
                    obtain ⟨g5, rfl, h⟩ := o5.at 0 (-1) rfl
                    exact ⟨g5, k5, rfl, h⟩
                  have hlen5 : (((B5.length + 1 : Nat) : Int) == 0) = false := by simp; omega
                  obtain ⟨n5, hn5⟩ : ∃ n5, n5 = B5.length + 1 := ⟨_, rfl⟩
                  rw [← hn5] at hlen5 ⊢
                  have hn51 : 0 < n5 := by omega
                  have HS5 : Hid (RT w15 w1.heap.size gt (j + 1 + 42 + 42 * (k + 1)) (its 1 L j ++ [⟨-1, lo, hi⟩]) X ∧ Two w15 gs (.int .i64 lo) (.int .i64 (hi - 1)) ∧ Fr w1 w15 (fun _ => False)) := hide ⟨rt5.mono (by omega), HTW.out.fr f5 HGS.out, (HFR.out.trans f5).mono (fun z hz h => by rcases h with h | h; exact h; (have := (HXL.out z h).1; omega))⟩
                  clear o5 ov5 rt5 f5 hin5 hn5 HST hcx HRT HTW HFR hx1 hx2
                  go_wp2
                  go_roundw
                  case rel => exact ⟨k + 1, by go_num, by omega, HS5.out.1, HS5.out.2.1, HS5.out.2.2⟩
                  case measure => simp [intOf]; omega
                · have HRE : Hid (RA w1 gt (j + 1 + 42 + 42 * k) (its 1 L j ++ [⟨-1, lo, hi⟩]) w14) := hide ⟨X, HRT.out, HFR.out⟩
                  have HC1 := hide (HRE.out.cut (Fr.refl w14 (fun _ => False)) (-1) ⟨by omega, by omega⟩ (by omega))
                  clear HRT HTW HFR
                  go_wp2_with fail
                  refine HC1.out.mono ?_
                  rintro e w15 ⟨f15, ra15, ⟨hno, _⟩ | ⟨_, rfl⟩⟩
                  · exact absurd rfl (hno ⟨-1, lo, hi⟩ (List.mem_append_right _ (by simp)))
                  · have HC2 := hide (ra15.cut (Fr.refl w15 (fun _ => False)) (-1) ⟨by omega, by omega⟩ (by omega))
                    clear f15 ra15 HC1
                    go_wp2_with fail
                    refine HC2.out.mono ?_
                    rintro e w16 ⟨f16, ra16, ⟨_, rfl⟩ | ⟨⟨z, hz, hzi⟩, _⟩⟩
                    · have HFF : Hid (Fr w w16 (fun _ => False)) := hide ((HF1.out.trans ra16.fr).mono (by simp))
                      clear f16 ra16 HC2
                      go_wp2
                      go_ret
                      exact ⟨rfl, HFF.out⟩
                    · exact absurd hzi (by have := (List.mem_filter.1 hz).2; simpa using this)
        · have hq' : rightB ⟨lo2, hi2⟩ = false := by simpa using hq
          have hcq40 : cq = 40 := HKQ.out.2 hq'
          subst hcq40
          have hA : A = [] := HNA.out hq'
          subst hA
          obtain ⟨al, kl, rfl, _⟩ := HO.out.shape
          clear hq hq'
          go_wp2_with (rw [← HW12.out])
          refine (HCQ.out W12).mono ?_
          rintro e w13 ⟨rfl, f13⟩
          have HFF : Hid (Fr w w13 (fun _ => False)) := hide (((HF1.out.trans HRA12.out.fr).trans f13).mono (by simp))
          clear f13
          go_wp2
          go_ret
          exact ⟨rfl, HFF.out⟩
      · have hr' : rightB ⟨lo, hi⟩ = false := by simpa using hr
        have HRES : Hid (e = .returned (.int .i64 40) ∧ RA w1 gt j (its 1 L j) w9) := hide (by
          rcases hcase with ⟨r, rfl, ra⟩ | ⟨r, _⟩ | ⟨r, _⟩
          · exact ⟨rfl, ra⟩
          · have r' : rightB ⟨lo, hi⟩ = true := r
            exact absurd r' hr
          · have r' : rightB ⟨lo, hi⟩ = true := r
            exact absurd r' hr)
        obtain ⟨rfl, ra⟩ := HRES.out
        have HRA := hide ra
        have HTP := hide (HT1.out.fr ra.fr (fun h => h))
        have HK0 : Hid (codeP ⟨lo, hi⟩ = 40) := hide (HKP.out.2 hr')
        clear hcase f9 HRES ra hr hr' HAD d0 d1
        have d0 := HTP.out.1
        have d1 := HTP.out.2.1
        go_wp2_with fail
        refine (HCP.out w9).mono ?_
        rintro e w10 ⟨rfl, f10⟩
        rw [HK0.out]
        have HFF : Hid (Fr w w10 (fun _ => False)) := hide (((HF1.out.trans HRA.out.fr).trans f10).mono (by simp))
        clear f10
        go_wp2
        go_ret
        exact ⟨rfl, HFF.out⟩
end Go.Proofs.Ytanfbfmpppfbhaa
