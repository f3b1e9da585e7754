/- All at once is one after the other: the walk of PeriodSteps. -/
import Derived.Test.YtaikhmedehbfbaaCt
namespace Go.Proofs.Ytaikhmedehbfbaa
open Go.RowKit
set_option linter.unusedVariables false

theorem own_spot {w : World} {v : Value} {L : List Per} (h : OwnP w v L) : ∀ (a : Option Addr) (n c : Nat), v = .slice a n c → (a = none → c = 0) ∧ ∀ z, a = some z → z.spot = none := by
  intro a n c hv
  rcases h.2 with ⟨h1, _⟩ | ⟨g, cap, cur, h1, _⟩
  · rw [h1] at hv; cases hv; exact ⟨fun _ => rfl, fun z hz => absurd hz (by simp)⟩
  · rw [h1] at hv; cases hv; exact ⟨fun h => absurd h (by simp), fun z hz => by rw [← Option.some.inj hz]⟩

set_option maxRecDepth 100000 in
set_option maxHeartbeats 4000000 in
theorem steps_walk (p : Per) (a : Option Addr) (c : Nat) (L : List Per) (w : World) (hv : Pers w a L) (hL : L.length ≤ 8796093021990) :
    Calls Try.prog 7 #[perV p, .slice a L.length c] w fun e w' => e = .returned (.bool true) ∧ Fr w w' (fun _ => False) := by
  have FA := Fr.alloc w (.cells #[.int .i64 p.lo, .int .i64 p.hi] 23) (fun _ => False)
  have HFA := hide FA
  have HVw := hide hv
  have HT := hide (two_of (heap_alloc_new w (.cells #[.int .i64 p.lo, .int .i64 p.hi] 23)))
  have hm0 := fun W => minus_any p none 0 [] W (Pers.nil W none) (by simp)
  have hmL := fun W (h : Pers W a L) => minus_any p a c L W h (by omega)
  have HML := hide hmL
  unfold perV at hm0 HML ⊢
  clear hv FA hmL
  go_enter Try.func7, Try.ntmps7
  go_wp2_with fail
  obtain ⟨W0, hW0⟩ : ∃ W0, W0 = w.alloc (.cells #[.int .i64 p.lo, .int .i64 p.hi] 23) := ⟨_, rfl⟩
  obtain ⟨gb, hgb⟩ : ∃ gb, gb = w.heap.size := ⟨_, rfl⟩
  rw [← hW0] at HFA HT ⊢
  rw [← hgb] at HT ⊢
  have hbw : w.heap.size ≤ gb := by omega
  clear hW0 hgb
  refine (awake_any W0).mono ?_
  rintro e W1 ⟨rfl, f1⟩
  have HF1 := hide ((HFA.out.trans f1).mono (Y := fun _ => False) (by simp))
  have HT1 := hide (HT.out.fr f1 (fun h => h))
  have t0 := HT1.out.1
  have t1 := HT1.out.2.1
  clear f1 HFA HT
  go_wp2_with fail
  refine (hm0 W1).mono ?_
  rintro e W2 ⟨v2, O2, rfl, ho2, hu2, f2, hx2⟩
  have HF2 := hide ((HF1.out.trans f2).mono (Y := fun _ => False) (by simp))
  have HT2 := hide (HT1.out.fr f2 (fun h => h))
  have HO2 := hide ho2
  have HU2 := hide hu2
  have HX2 := hide (fun q hq => (show w.heap.size ≤ q by have := hx2 q hq; have := HF1.out.size; omega))
  clear f2 ho2 hu2 hx2 HF1 HT1 t0 t1 hm0
  go_wp2_with fail
  go_loopw [5, 6, 18] (fun x y i wr => ∃ (k : Nat) (X A : List Per), k ≤ L.length ∧ i = .int .i64 k ∧ OwnP wr x X ∧ OwnP wr y A ∧ IsMinus p (L.take k) X ∧ IsUnion (L.take k) A ∧ Fr w wr (fun _ => False) ∧ Two wr gb (.int .i64 p.lo) (.int .i64 p.hi) ∧ (∀ q, x.ownBlock = some q → w.heap.size ≤ q ∧ y.ownBlock ≠ some q) ∧ ∀ q, y.ownBlock = some q → w.heap.size ≤ q ∧ q ≠ gb) (fun _ _ i _ => L.length - (intOf i).toNat)
  case atStart => exact ⟨0, O2, [], by omega, rfl, HO2.out, OwnP.nil _, HU2.out, isUnion_nil, HF2.out, HT2.out, fun q hq => ⟨HX2.out q hq, by simp [Value.ownBlock]⟩, by simp [Value.ownBlock]⟩
  case round =>
    rename World => W
    obtain ⟨k, X, A, hk, rfl, hoX, hoA, huX, huA, hf, hT, hxX, hxA⟩ := hrel
    have HOX := hide hoX
    have HOA := hide hoA
    have HUX := hide huX
    have HUA := hide huA
    have HF := hide hf
    have HTW := hide hT
    have HXX := hide hxX
    have HXA := hide hxA
    have hlX := huX.len
    have hlA := huA.len
    rw [List.length_take] at hlX hlA
    have hlen1 : X.length ≤ k + 1 := by omega
    have hlen2 : A.length ≤ k := by omega
    obtain ⟨xa, xc, hxe, _, _⟩ := hoX.shape
    subst hxe
    clear hoX hoA huX huA hf hT hxX hxA hlX hlA HO2 HU2 HX2
    by_cases hlt : k < L.length
    · obtain ⟨r, hr⟩ : ∃ r, L[k]? = some r := ⟨_, List.getElem?_eq_getElem hlt⟩
      obtain ⟨g, off, rfl, c0, c1⟩ := HVw.out.get HF.out k r hr
      have HTK := hide (take_snoc L k r hr)
      have FB := Fr.alloc W (.cells #[.int .i64 r.lo, .int .i64 r.hi] 23) (fun _ => False)
      have HTA := hide (two_of (heap_alloc_new W (.cells #[.int .i64 r.lo, .int .i64 r.hi] 23)))
      have HFA := hide ((HF.out.trans FB).mono (Y := fun _ => False) (by simp))
      have HOXA := hide (HOX.out.fr FB (fun _ _ h => h))
      have HOAA := hide (HOA.out.fr FB (fun _ _ h => h))
      have HTBA := hide (HTW.out.fr FB (fun h => h))
      have hXlt := fun q (hq : (Value.slice xa X.length xc).ownBlock = some q) => (HOX.out.lt q hq).2
      have hAlt := fun q (hq : u6.ownBlock = some q) => (HOA.out.lt q hq).2
      have HXlt := hide hXlt
      have HAlt := hide hAlt
      obtain ⟨gr, hgr⟩ : ∃ gr, gr = W.heap.size := ⟨_, rfl⟩
      have hsA : (W.alloc (.cells #[.int .i64 r.lo, .int .i64 r.hi] 23)).heap.size = gr + 1 := by rw [hgr]; simp
      have hwg : w.heap.size ≤ gr := by have := HF.out.size; omega
      have hgbg : gb < gr := by rw [hgr]; exact World.block_lt_of_cell? W _ HTW.out.1
      rw [← hgr] at HTA
      clear hr FB hXlt hAlt HOX HOA HTW HF
      go_wp2_with fail
      rw [← hgr]
      generalize W.alloc (.cells #[.int .i64 r.lo, .int .i64 r.hi] 23) = WA at *
      have hgrW : W.heap.size ≤ gr := by omega
      clear hgr
      go_loopw [9, 24] (fun y i wr => ∃ (j : Nat) (N : List Per), j ≤ X.length ∧ i = .int .i64 j ∧ OwnP wr y N ∧ Nexts X r j N ∧ Fr WA wr (fun _ => False) ∧ ∀ q, y.ownBlock = some q → WA.heap.size ≤ q) (fun _ i _ => X.length - (intOf i).toNat)
      case atStart => exact ⟨0, [], by omega, rfl, OwnP.nil _, Nexts.start X r, Fr.refl _ _, by simp [Value.ownBlock]⟩
      case round =>
        rename World => V
        obtain ⟨j, N, hj, rfl, hoN, hnx, hfV, hxN⟩ := hrel
        have HON := hide hoN
        have HNX := hide hnx
        have HFV := hide hfV
        have HXN := hide hxN
        have hlN : N.length ≤ j + 1 := by rcases hnx.len with h | ⟨h, _⟩ <;> omega
        clear hoN hnx hfV hxN
        by_cases hlt2 : j < X.length
        · obtain ⟨x, hx⟩ : ∃ x, X[j]? = some x := ⟨_, List.getElem?_eq_getElem hlt2⟩
          obtain ⟨g2, off2, rfl, d0, d1⟩ := HOXA.out.pers.get HFV.out j x hx
          have HX := hide hx
          have FB := Fr.alloc V (.cells #[.int .i64 x.lo, .int .i64 x.hi] 23) (fun _ => False)
          have htr := (HTA.out.fr HFV.out (fun h => h)).fr FB (fun h => h)
          have e0 := htr.1
          have e1 := htr.2.1
          have hsB : (V.alloc (.cells #[.int .i64 x.lo, .int .i64 x.hi] 23)).heap.size = V.heap.size + 1 := by simp
          have FC := Fr.alloc (V.alloc (.cells #[.int .i64 x.lo, .int .i64 x.hi] 23)) (.cells #[.int .i64 r.lo, .int .i64 r.hi] 23) (fun _ => False)
          have HPR := hide (pers_one (V.alloc (.cells #[.int .i64 x.lo, .int .i64 x.hi] 23)) r)
          rw [hsB] at HPR
          have HFC := hide (((HFV.out.trans FB).trans FC).mono (Y := fun _ => False) (by simp))
          have HONC := hide ((HON.out.fr FB (fun _ _ h => h)).fr FC (fun _ _ h => h))
          have hmm := minus_any x (some ⟨V.heap.size + 1, 0, none⟩) 1 [r] _ HPR.out (by simp)
          have hsV := HFV.out.size
          unfold perV at hmm
          simp only [List.length_cons, List.length_nil, Nat.zero_add] at hmm
          clear hx FB FC htr hsB
          go_wp2_with fail
          refine hmm.mono ?_
          rintro e V3 ⟨v3, M, rfl, ho3, hu3, f3, hx3⟩
          have HO3 := hide ho3
          have HU3 := hide hu3
          have HF3 := hide ((HFC.out.trans f3).mono (Y := fun _ => False) (by simp))
          have HON3 := hide (HONC.out.fr f3 (fun _ _ h => h))
          have hlM := hu3.len
          obtain ⟨a3, c3, hv3, _, _⟩ := ho3.shape
          subst hv3
          have HSP := hide (own_spot ho3 a3 M.length c3 rfl)
          simp only [List.length_singleton] at hlM
          clear ho3 hu3 f3 hx3 hmm HFC HONC HPR e0 e1
          go_wp2_with (refine wpList_catP rfl (.tmp 28) (.tmp 32) rfl u9 N rfl HON3.out a3 c3 M rfl HO3.out.pers HSP.out.1 HSP.out.2 (by omega) ?_; intro v4 V4 ho4 hf4 hr4; have HO4 := hide ho4; have HF4 := hide hf4; have HR4 := hide hr4; clear ho4 hf4 hr4)
          go_roundw
          case rel =>
            refine ⟨j + 1, N ++ M, by omega, by go_num, HO4.out, HNX.out.step HUX.out.canon HUX.out.right HX.out HU3.out, (HF3.out.trans HF4.out).mono (fun q hq h => by rcases h with h | h; exact h; (have := HXN.out q h; omega)), HR4.out.le (by have := HF3.out.size; omega) HXN.out⟩
          case measure => simp [intOf]; omega
        · obtain rfl : j = X.length := by omega
          have hsV := HFV.out.size
          have htr := HTA.out.fr HFV.out (fun h => h)
          have e0 := htr.1
          have e1 := htr.2.1
          have HOAV := hide (HOAA.out.fr HFV.out (fun _ _ h => h))
          have HTBV := hide (HTBA.out.fr HFV.out (fun h => h))
          have HFw := hide ((HFA.out.trans HFV.out).mono (Y := fun _ => False) (by simp))
          have hxNlt := fun q (hq : u9.ownBlock = some q) => (HON.out.lt q hq).2
          have HNlt := hide hxNlt
          clear htr hxNlt HOAA HTBA HFA HTA HOXA
          go_wp2_with (refine wpList_pushP rfl (.tmp 36) (.tmp 38) rfl u6 A rfl HOAV.out r _ rfl rfl (by omega) ?_; intro v4 V4 ho4 hf4 hr4; have HO4 := hide ho4; have HF4 := hide hf4; have HR4 := hide hr4; obtain ⟨a4, c4, hv4, _, _⟩ := ho4.shape; subst hv4; clear ho4 hf4 hr4)
          have hun := union_any a4 c4 (A ++ [r]) V4 HO4.out.pers (by rw [List.length_append, List.length_singleton]; omega)
          rw [show (A ++ [r]).length = A.length + 1 by simp] at hun
          refine hun.mono ?_
          rintro e V5 ⟨v5, B, rfl, ho5, hu5, f5, hx5⟩
          have HO5 := hide ho5
          have HU5 := hide (isUnion_more HUA.out hu5)
          have F4 : Fr V V4 (fun q => u6.ownBlock = some q) := HF4.out
          have s4 := F4.size
          have HF5 := hide (((HFw.out.trans F4).trans f5).mono (Y := fun _ => False) (fun q hq h => by rcases h with (h | h) | h; exact h; (have := (HXA.out q h).1; omega); exact h))
          have HN5 := hide ((HON.out.fr F4 (fun q hq h => by have h1 := HXN.out q hq; have h2 := HAlt.out q h; omega)).fr f5 (fun _ _ h => h))
          have HT5 := hide ((HTBV.out.fr F4 (fun h => (HXA.out gb h).2 rfl)).fr f5 (fun h => h))
          have HX5 := hide hx5
          have HMI := hide (HNX.out.fin HUX.out)
          rw [← HTK.out] at HMI HU5
          clear hun ho5 hu5 f5 hx5 e0 e1
          go_wp2
          go_roundw
          case rel =>
            refine ⟨k + 1, N, B, by omega, by go_num, HN5.out, HO5.out, HMI.out, HU5.out, HF5.out, HT5.out, fun q hq => ⟨?_, fun h => ?_⟩, fun q hq => ⟨?_, ?_⟩⟩
            · have := HXN.out q hq; omega
            · have h1 := HX5.out q h; have h2 := HNlt.out q hq; omega
            · have := HX5.out q hq; omega
            · have := HX5.out q hq; omega
          case measure => simp [intOf]; omega
    · obtain rfl : k = L.length := by omega
      rw [List.take_length] at HUX HUA
      have HVW := hide (HVw.out.fr HF.out (fun _ _ _ _ h => h))
      have t0 := HTW.out.1
      have t1 := HTW.out.2.1
      obtain ⟨ya, yc, hye, _, _⟩ := HOA.out.shape
      subst hye
      go_wp2_with fail
      refine (HML.out W HVW.out).mono ?_
      rintro e W3 ⟨v3, O3, rfl, ho3, hu3, f3, _⟩
      obtain rfl := isMinus_unique hu3 HUX.out
      have HF3 := hide ((HF.out.trans f3).mono (Y := fun _ => False) (by simp))
      have HV3 := hide (HVW.out.fr f3 (fun _ _ _ _ h => h))
      have HOA3 := hide (HOA.out.fr f3 (fun _ _ h => h))
      have HOX3 := hide (HOX.out.fr f3 (fun _ _ h => h))
      have HO3 := hide ho3
      obtain ⟨a3, c3, hv3, _, _⟩ := ho3.shape
      subst hv3
      clear f3 ho3 hu3 HF HVW HOA HOX t0 t1 HTW HML
      go_wp2_with fail
      refine (same_any xa xc a3 c3 O3 W3 HOX3.out.pers HO3.out.pers (by omega)).mono ?_
      rintro e W4 ⟨rfl, f4⟩
      have HF4 := hide ((HF3.out.trans f4).mono (Y := fun _ => False) (by simp))
      have HV4 := hide (HV3.out.fr f4 (fun _ _ _ _ h => h))
      have HOA4 := hide (HOA3.out.fr f4 (fun _ _ h => h))
      clear f4 HF3 HV3 HOA3 HOX3 HO3
      go_wp2_with fail
      refine (union_any a c L W4 HV4.out (by omega)).mono ?_
      rintro e W5 ⟨v5, O5, rfl, ho5, hu5, f5, _⟩
      obtain rfl := isUnion_unique hu5 HUA.out
      have HF5 := hide ((HF4.out.trans f5).mono (Y := fun _ => False) (by simp))
      have HOA5 := hide (HOA4.out.fr f5 (fun _ _ h => h))
      have HO5 := hide ho5
      obtain ⟨a5, c5, hv5, _, _⟩ := ho5.shape
      subst hv5
      clear f5 ho5 hu5 HF4 HV4 HOA4
      go_wp2_with fail
      refine (same_any ya yc a5 c5 O5 W5 HOA5.out.pers HO5.out.pers (by omega)).mono ?_
      rintro e W6 ⟨rfl, f6⟩
      have HF6 := hide ((HF5.out.trans f6).mono (Y := fun _ => False) (by simp))
      clear f6 HF5 HOA5 HO5
      go_wp2
      go_ret
      exact ⟨rfl, HF6.out⟩
end Go.Proofs.Ytaikhmedehbfbaa
