/- The walk of TrailSplits. -/
import Derived.Test.YtcmabldfegcdaaaMm
namespace Go.Proofs.Ytcmabldfegcdaaa
open Go.RowKit
set_option maxRecDepth 100000
set_option linter.unusedVariables false
set_option linter.unusedSimpArgs false

theorem run_same {L La : List Er} (hm : La.map Prod.fst = L.map Prod.fst) {i : Nat} {x : Er} (hx : L[i]? = some x) {k : Nat} (hk : i < k) : ((runS [] La k).f x.1.txn).isSome = true := by
  have h1 := get_map hm i
  rw [hx] at h1
  cases hy : La[i]? with
  | none => rw [hy] at h1; cases h1
  | some y =>
    rw [hy] at h1
    simp only [Option.map_some, Option.some.injEq] at h1
    rw [← h1]
    exact run_some [] La hy hk
theorem run_snoc {L La Lb : List Er} (ha : La.map Prod.fst = L.map Prod.fst) (hb : Lb.map Prod.fst = L.map Prod.fst) {n : Nat} (hl : Lb.length = n) {y : Er} : runS [] (Lb ++ [y]) (n + 1) = stepS (runS [] La n) y.1 0 := by
  rw [show runS [] (Lb ++ [y]) (n + 1) = (match (Lb ++ [y])[n]? with | some x => stepS (runS [] (Lb ++ [y]) n) x.1 (([] : List Int).getD n 0) | .none => runS [] (Lb ++ [y]) n) from rfl]
  rw [show (Lb ++ [y])[n]? = some y by rw [← hl]; simp]
  rw [runS_congr [] (Lb ++ [y]) La n (fun i hi => by rw [List.getElem?_append_left (by omega), get_map hb, get_map ha])]
  rfl
theorem pages_back {s u : Sn} {T T' : List Tch} (hfp : u.fp = s.fp) (hp : T'.Pairwise (fun x y => x.page < y.page)) (hi' : ∀ y, y ∈ T' ↔ In64 y.page ∧ u.fp y.page = some y) (hi : ∀ y, y ∈ T ↔ In64 y.page ∧ s.fp y.page = some y) : T'.length ≤ T.length := by
  have h := sub_len (T'.map Tch.page) (T.map Tch.page) ?_ ?_
  · simpa using h
  · rw [List.nodup_iff_pairwise_ne, List.pairwise_map]
    exact hp.imp (fun h => by omega)
  · intro x hx
    obtain ⟨y, hy, rfl⟩ := List.mem_map.1 hx
    have h1 := (hi' y).1 hy
    rw [hfp] at h1
    exact List.mem_map.2 ⟨y, (hi y).2 h1, rfl⟩

set_option maxHeartbeats 8000000 in
theorem splits_walk {w : World} (a : Option Addr) (c n : Nat) (L : List Er) (hln : L.length = n) (hL : EntsIn w a L) (hin : ∀ x ∈ L, In64 x.1.txn ∧ In64 x.1.page) (hn : n ≤ 2199023255551) (hnc : n ≤ c) (t : Int) (ht : In64 t) :
    Calls Try.prog 4 #[.slice a n c, .int .i64 t] w fun x w' => x = .returned (.bool true) ∧ Fr w w' (fun _ => False) := by
  have HL := hide hL
  have HLN := hide hln
  have HIN := hide hin
  clear hL hln hin
  go_enter Try.func4, Try.ntmps4
  go_wp2_with fail
  refine (awake_any _).mono ?_
  rintro x W1 ⟨rfl, f1⟩
  have HF1 := hide f1
  clear f1
  go_wp2_with fail
  refine (copied_any a c n L HLN.out (HL.out.fr HF1.out) (by omega)).mono ?_
  rintro x W2 ⟨v1, La, rfl, o1, hma, u1, f2⟩
  have hla : La.length = n := by have := congrArg List.length hma; rw [List.length_map, List.length_map, HLN.out] at this; exact this
  obtain ⟨aa, ac, hv1, hEa⟩ := o1.ents
  rw [hla] at hv1
  subst hv1
  have HMA := hide hma
  have HF2 := hide ((HF1.out.trans f2).mono (Y := fun _ => False) (by intro k _ h; simp at h))
  have hAn := analyse_any (w := W2) aa none ac 0 La [] hEa (fun k v h => by simp at h) (in_map hma HIN.out) (by omega)
  rw [hla] at hAn
  clear o1 hma u1 f2 hEa HF1 hla
  go_wp2_with fail
  refine hAn.mono ?_
  rintro x W3 ⟨cvA, lvA, pvA, mA, ZA, TA, rfl, oCA, oZA, oTA, zA1, zA2, tA1, tA2, mA1, mA2, mA3, _, _, _, f3⟩
  obtain ⟨RA, hRA⟩ : ∃ RA, RA = runS [] La n := ⟨_, rfl⟩
  rw [← hRA] at oCA zA2 tA2
  have HRA := hide hRA
  clear hRA
  obtain ⟨a1, c1, e1⟩ := shape_n oCA
  obtain ⟨a2, c2, e2⟩ := shape_n oZA
  obtain ⟨a3, c3, e3⟩ := shape_n oTA
  subst e1 e2 e3
  obtain ⟨p1, hp1⟩ : ∃ p, RA.C.length = p := ⟨_, rfl⟩
  obtain ⟨p2, hp2⟩ : ∃ p, ZA.length = p := ⟨_, rfl⟩
  obtain ⟨p3, hp3⟩ : ∃ p, TA.length = p := ⟨_, rfl⟩
  rw [hp1] at oCA ⊢
  rw [hp2] at oZA ⊢
  rw [hp3] at oTA ⊢
  have FA := Fr.alloc W3 (.cells #[.slice a1 p1 c1, .slice a2 p2 c2, .slice a3 p3 c3, .int .i64 mA] 27) (fun _ => False)
  have HCA := hide (oCA.fr FA (fun _ _ h => h))
  have HZA := hide (oZA.fr FA (fun _ _ h => h))
  have H4A := hide (four_of (heap_alloc_new W3 (.cells #[.slice a1 p1 c1, .slice a2 p2 c2, .slice a3 p3 c3, .int .i64 mA] 27)))
  have HF4 := hide (((HF2.out.trans f3).trans FA).mono (Y := fun _ => False) (by intro k _ h; simp at h))
  have HP1 := hide hp1
  have HP2 := hide hp2
  have HP3 := hide hp3
  have HZP := hide (And.intro zA1 zA2)
  have HTP := hide (And.intro tA1 tA2)
  clear hAn f3 oCA oZA oTA zA1 zA2 tA1 tA2 mA1 mA2 mA3 HF2 FA hp1 hp2 hp3
  go_wp2_with fail
  generalize W3.alloc (.cells #[.slice a1 p1 c1, .slice a2 p2 c2, .slice a3 p3 c3, .int .i64 mA] 27) = W4 at *
  obtain ⟨b5, hb5⟩ : ∃ b, b = W3.heap.size := ⟨_, rfl⟩
  rw [← hb5] at H4A ⊢
  clear hb5
  go_loopw [26] (fun i wr => ∃ j : Nat, j ≤ n ∧ i = .int .i64 (j : Int) ∧ Fr W4 wr (fun _ => False)) (fun i _ => n - (intOf i).toNat)
  case atStart => exact ⟨0, Nat.zero_le _, rfl, Fr.refl _ _⟩
  case round =>
    obtain ⟨j, hj, rfl, hfr⟩ := hrel
    have HFr := hide hfr
    clear hfr
    rcases Nat.lt_or_ge j n with hlt | hge
    · have hlt2 : j < L.length := by have := HLN.out; omega
      obtain ⟨x, hx⟩ : ∃ x, L[j]? = some x := ⟨_, List.getElem?_eq_getElem hlt2⟩
      obtain ⟨⟨g, off, hag, hrow⟩, _⟩ := HL.out j x hx
      have hrow := rangeAt_fr hrow ((HF4.out.trans HFr.out).mono (Y := fun _ => False) (by intro k _ h; simp at h)) (fun h => h)
      have HX := hide hx
      have HI := hide (HIN.out x (List.mem_of_getElem? hx))
      obtain ⟨e, ea, ec⟩ := x
      have x0 := hrow 0 _ rfl
      have x1 := hrow 1 _ rfl
      have x2 := hrow 2 _ rfl
      have x3 := hrow 3 _ rfl
      have x4 := hrow 4 _ rfl
      have x5 := hrow 5 _ rfl
      simp only [Nat.add_zero] at x0 x1 x2 x3 x4 x5
      rw [hag]
      clear hx hrow hlt2 hag
      have FB := Fr.alloc wr (.cells #[.int .i64 e.kind, .int .i64 e.txn, .int .i64 e.page, .int .i64 e.slot, .int .i64 e.stamp, .slice ea e.data.length ec] 31) (fun _ => False)
      have HF5 := hide ((HFr.out.trans FB).mono (Y := fun _ => False) (by intro k _ h; simp at h))
      have H45 := hide (H4A.out.fr HF5.out (fun h => h))
      have v0 := H45.out.c0
      have v1 := H45.out.c1
      have v2 := H45.out.c2
      have v3 := H45.out.c3
      clear FB
      go_wp2_with fail
      have hst := state_any (w := wr.alloc (.cells #[.int .i64 e.kind, .int .i64 e.txn, .int .i64 e.page, .int .i64 e.slot, .int .i64 e.stamp, .slice ea e.data.length ec] 31)) a1 a2 a3 c1 c2 c3 p1 p2 p3 mA e.txn RA.C ZA (HCA.out.fr HF5.out (fun _ _ h => h)) (HZA.out.fr HF5.out (fun _ _ h => h)) HP1.out HP2.out
      refine hst.mono ?_
      rintro x W6 ⟨rfl, f6⟩
      have hold := told_once (t := e.txn) (by rw [HRA.out]; exact tell_run [] La n) HZP.out.1 HZP.out.2 HI.out.1 (by rw [HRA.out]; exact run_same HMA.out HX.out hlt)
      have HF6 := hide ((HF5.out.trans f6).mono (Y := fun _ => False) (by intro k _ h; simp at h))
      clear hst f6 v0 v1 v2 v3 x0 x1 x2 x3 x4 x5
      generalize cntC RA.C e.txn = K1 at *
      generalize cntZ ZA e.txn = K2 at *
      go_wp2
      go_roundw
      case rel => exact ⟨j + 1, by omega, by go_num, HF6.out⟩
      case measure => simp [intOf]; omega
    · go_wp2_with fail
      have HF7 := hide ((HF4.out.trans HFr.out).mono (Y := fun _ => False) (by intro k _ h; simp at h))
      have HFS := hide HFr.out.size
      refine (copied_any a c n L HLN.out (HL.out.fr HF7.out) (by omega)).mono ?_
      rintro x W7 ⟨v2, Lb, rfl, o2, hmb, u2, f7⟩
      have hlb : Lb.length = n := by have := congrArg List.length hmb; rw [List.length_map, List.length_map, HLN.out] at this; exact this
      have HO2 := hide o2
      have HMB := hide hmb
      have HU2 := hide u2
      have HLB := hide hlb
      have HF8 := hide ((HFr.out.trans f7).mono (Y := fun _ => False) (by intro k _ h; simp at h))
      clear o2 hmb u2 f7 hlb HFr HF7
      go_wp2_with (refine wpList_pushE rfl (.tmp 43) (.tmp 46) rfl _ Lb rfl HO2.out ((⟨3, t, 0, 0, 5, []⟩, none, 0) : Er) _ rfl rfl (by have := HLB.out; omega) ?_; intro v5 W8 o5 f5 r5; obtain ⟨ab, bc, hv5, hEb⟩ := o5.ents; have hl5 : (Lb ++ [((⟨3, t, 0, 0, 5, []⟩, none, 0) : Er)]).length = n + 1 := by { rw [List.length_append, HLB.out]; rfl }; rw [hl5] at hv5; subst hv5; have HEB := hide hEb; have HL5 := hide hl5; have HF9 := hide ((HF8.out.trans f5).mono (Y := fun _ => False) (by intro k hk h; rcases h with h | h; exact h; (have h1 := HU2.out k h; have h2 := HFS.out; omega))); clear o5 f5 r5 hEb hl5)
      have hBn := analyse_any (w := W8) ab none bc 0 (Lb ++ [((⟨3, t, 0, 0, 5, []⟩, none, 0) : Er)]) [] HEB.out (fun k v h => by simp at h) (by intro x hx; rcases List.mem_append.1 hx with h | h; exact in_map HMB.out HIN.out x h; (rw [List.mem_singleton.1 h]; exact ⟨ht, by unfold In64; simp⟩)) (by have := HL5.out; omega)
      rw [HL5.out] at hBn
      refine hBn.mono ?_
      rintro x W9 ⟨cvB, lvB, pvB, mB, ZB, TB', rfl, oCB, oZB, oTB, zB1, zB2, tB1, tB2, mB1, mB2, mB3, _, _, _, f9⟩
      have hRB : runS [] (Lb ++ [((⟨3, t, 0, 0, 5, []⟩, none, 0) : Er)]) (n + 1) = stepS RA (⟨3, t, 0, 0, 5, []⟩ : Ent) 0 := by rw [HRA.out]; exact run_snoc HMA.out HMB.out HLB.out
      rw [hRB] at oCB zB2 tB2
      have hpe : TB'.length = TA.length := by
        have hm1 : MoreS RA (stepS RA (⟨3, t, 0, 0, 5, []⟩ : Ent) 0) := moreS_step _ _ _
        have hfp : (stepS RA (⟨3, t, 0, 0, 5, []⟩ : Ent) 0).fp = RA.fp := by rw [stepS_commit _ _ _ rfl]
        have hpgA : ∀ x y, RA.fp x = some y → y.page = x := by rw [HRA.out]; exact page_run [] La n
        have h1 := pages_len hm1 HTP.out.1 HTP.out.2 tB2 (by rw [hfp]; exact hpgA)
        have h2 := pages_back hfp tB1 tB2 HTP.out.2
        omega
      obtain ⟨CB, hCB⟩ : ∃ CB, CB = (stepS RA (⟨3, t, 0, 0, 5, []⟩ : Ent) 0).C := ⟨_, rfl⟩
      have hmore : ∀ s, In64 s → s ≠ t → cntC CB s = cntC RA.C s ∧ cntZ ZB s = cntZ ZA s := by rw [hCB]; exact fun s hs hne => told_more (e := (⟨3, t, 0, 0, 5, []⟩ : Ent)) rfl HZP.out.1 HZP.out.2 zB1 zB2 hs hne
      have hthis : cntC CB t = 1 ∧ cntZ ZB t = 0 := by rw [hCB]; exact told_this (e := (⟨3, t, 0, 0, 5, []⟩ : Ent)) (by rw [HRA.out]; exact tell_run [] La n) rfl zB1 zB2 ht
      rw [← hCB] at oCB
      obtain ⟨b1, d1, e1⟩ := shape_n oCB
      obtain ⟨b2, d2, e2⟩ := shape_n oZB
      obtain ⟨b3, d3, e3⟩ := shape_n oTB
      subst e1 e2 e3
      rw [HP3.out] at hpe
      obtain ⟨r1, hr1⟩ : ∃ p, CB.length = p := ⟨_, rfl⟩
      obtain ⟨r2, hr2⟩ : ∃ p, ZB.length = p := ⟨_, rfl⟩
      obtain ⟨r3, hr3⟩ : ∃ p, TB'.length = p := ⟨_, rfl⟩
      rw [hr1] at oCB ⊢
      rw [hr2] at oZB ⊢
      rw [hr3] at oTB hpe ⊢
      have FC := Fr.alloc W9 (.cells #[.slice b1 r1 d1, .slice b2 r2 d2, .slice b3 r3 d3, .int .i64 mB] 27) (fun _ => False)
      have HCB := hide (oCB.fr FC (fun _ _ h => h))
      have HZB := hide (oZB.fr FC (fun _ _ h => h))
      have H4B := hide (four_of (heap_alloc_new W9 (.cells #[.slice b1 r1 d1, .slice b2 r2 d2, .slice b3 r3 d3, .int .i64 mB] 27)))
      have FT := (((HF9.out.trans f9).trans FC).mono (Y := fun _ => False) (by intro k _ h; simp at h))
      have HFT := hide FT
      have H4A2 := hide (H4A.out.fr FT (fun h => h))
      have HCA2 := hide (HCA.out.fr FT (fun _ _ h => h))
      have HZA2 := hide (HZA.out.fr FT (fun _ _ h => h))
      have HR1 := hide hr1
      have HR2 := hide hr2
      have HMO := hide hmore
      have HTH := hide hthis
      have HPE := hide hpe
      clear hBn f9 oCB oZB oTB zB1 zB2 tB1 tB2 mB1 mB2 mB3 FC FT hr1 hr2 hr3 hmore hthis hpe hCB hRB H4A HCA HZA HF9 HEB
      go_wp2_with fail
      generalize W9.alloc (.cells #[.slice b1 r1 d1, .slice b2 r2 d2, .slice b3 r3 d3, .int .i64 mB] 27) = WA at *
      obtain ⟨b10, hb10⟩ : ∃ b, b = W9.heap.size := ⟨_, rfl⟩
      rw [← hb10] at H4B ⊢
      clear hb10
      go_loopw [51] (fun i wr => ∃ j : Nat, j ≤ n ∧ i = .int .i64 (j : Int) ∧ Fr WA wr (fun _ => False)) (fun i _ => n - (intOf i).toNat)
      case atStart => exact ⟨0, Nat.zero_le _, rfl, Fr.refl _ _⟩
      case round =>
        obtain ⟨i, hi, rfl, hfr⟩ := hrel
        have HFr := hide hfr
        clear hfr
        rcases Nat.lt_or_ge i n with hlt | hge2
        · have hlt2 : i < L.length := by have := HLN.out; omega
          obtain ⟨x, hx⟩ : ∃ x, L[i]? = some x := ⟨_, List.getElem?_eq_getElem hlt2⟩
          obtain ⟨⟨g, off, hag, hrow⟩, _⟩ := HL.out i x hx
          have hrow := rangeAt_fr hrow (((HF4.out.trans HFT.out).trans HFr.out).mono (Y := fun _ => False) (by intro k _ h; simp at h)) (fun h => h)
          have HX := hide hx
          have HI := hide (HIN.out x (List.mem_of_getElem? hx))
          obtain ⟨e, ea, ec⟩ := x
          have x0 := hrow 0 _ rfl
          have x1 := hrow 1 _ rfl
          have x2 := hrow 2 _ rfl
          have x3 := hrow 3 _ rfl
          have x4 := hrow 4 _ rfl
          have x5 := hrow 5 _ rfl
          simp only [Nat.add_zero] at x0 x1 x2 x3 x4 x5
          rw [hag]
          clear hx hrow hlt2 hag
          have FB := Fr.alloc wr (.cells #[.int .i64 e.kind, .int .i64 e.txn, .int .i64 e.page, .int .i64 e.slot, .int .i64 e.stamp, .slice ea e.data.length ec] 31) (fun _ => False)
          have HF5 := hide ((HFr.out.trans FB).mono (Y := fun _ => False) (by intro k _ h; simp at h))
          have H45 := hide (H4A2.out.fr HF5.out (fun h => h))
          have HS5 := hide (six_of (heap_alloc_new wr (.cells #[.int .i64 e.kind, .int .i64 e.txn, .int .i64 e.page, .int .i64 e.slot, .int .i64 e.stamp, .slice ea e.data.length ec] 31)))
          have v0 := H45.out.c0
          have v1 := H45.out.c1
          have v2 := H45.out.c2
          have v3 := H45.out.c3
          clear FB
          go_wp2_with fail
          have hst := state_any (w := wr.alloc (.cells #[.int .i64 e.kind, .int .i64 e.txn, .int .i64 e.page, .int .i64 e.slot, .int .i64 e.stamp, .slice ea e.data.length ec] 31)) a1 a2 a3 c1 c2 c3 p1 p2 p3 mA e.txn RA.C ZA (HCA2.out.fr HF5.out (fun _ _ h => h)) (HZA2.out.fr HF5.out (fun _ _ h => h)) HP1.out HP2.out
          refine hst.mono ?_
          rintro x W6 ⟨rfl, f6⟩
          have HF6 := hide ((HF5.out.trans f6).mono (Y := fun _ => False) (by intro k _ h; simp at h))
          have H46 := hide (H4B.out.fr HF6.out (fun h => h))
          have HS6 := hide (HS5.out.fr f6 (fun h => h))
          clear hst f6 v0 v1 v2 v3 x0 x1 x2 x3 x4 x5 HS5 H45
          have v0 := H46.out.c0
          have v1 := H46.out.c1
          have v2 := H46.out.c2
          have v3 := H46.out.c3
          have q1 := HS6.out.c1
          go_wp2_with fail
          have hst := state_any (w := W6) b1 b2 b3 d1 d2 d3 r1 r2 r3 mB e.txn CB ZB (HCB.out.fr HF6.out (fun _ _ h => h)) (HZB.out.fr HF6.out (fun _ _ h => h)) HR1.out HR2.out
          refine hst.mono ?_
          rintro x WB ⟨rfl, f7⟩
          have HFB := hide ((HF6.out.trans f7).mono (Y := fun _ => False) (by intro k _ h; simp at h))
          have HS7 := hide (HS6.out.fr f7 (fun h => h))
          clear hst f7 v0 v1 v2 v3 q1 HS6 H46
          have q1 := HS7.out.c1
          by_cases he : e.txn = t
          · generalize cntC RA.C e.txn = K1 at *
            generalize cntZ ZA e.txn = K2 at *
            generalize cntC CB e.txn = K3 at *
            generalize cntZ ZB e.txn = K4 at *
            go_wp2
            go_roundw
            case rel => exact ⟨i + 1, by omega, by go_num, HFB.out⟩
            case measure => simp [intOf]; omega
          · have hmm := HMO.out e.txn HI.out.1 he
            rw [hmm.1, hmm.2]
            clear hmm
            generalize cntC RA.C e.txn = K1 at *
            generalize cntZ ZA e.txn = K2 at *
            go_wp2
            go_roundw
            case rel => exact ⟨i + 1, by omega, by go_num, HFB.out⟩
            case measure => simp [intOf]; omega
        · have H4C := hide (H4B.out.fr HFr.out (fun h => h))
          have H4D := hide (H4A2.out.fr HFr.out (fun h => h))
          have v0 := H4C.out.c0
          have v1 := H4C.out.c1
          have v2 := H4C.out.c2
          have v3 := H4C.out.c3
          go_wp2_with fail
          have hst := state_any (w := wr) b1 b2 b3 d1 d2 d3 r1 r2 r3 mB t CB ZB (HCB.out.fr HFr.out (fun _ _ h => h)) (HZB.out.fr HFr.out (fun _ _ h => h)) HR1.out HR2.out
          refine hst.mono ?_
          rintro x WB ⟨rfl, f7⟩
          have HFB := hide ((((HF4.out.trans HFT.out).trans HFr.out).trans f7).mono (Y := fun _ => False) (by intro k _ h; simp at h))
          rw [HTH.out.1, HTH.out.2]
          have u2 := (H4C.out.fr f7 (fun h => h)).c2
          have u3 := (H4D.out.fr f7 (fun h => h)).c2
          have hpe := HPE.out
          subst hpe
          clear hst f7 v0 v1 v2 v3
          go_wp2
          go_ret
          exact ⟨rfl, HFB.out⟩
end Go.Proofs.Ytcmabldfegcdaaa
