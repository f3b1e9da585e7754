/- An instant in the union, in what is left: the walk of PeriodInstants. -/
import Derived.Test.YtaikhmedehbfbaaAw
namespace Go.Proofs.Ytaikhmedehbfbaa
open Go.RowKit
set_option linter.unusedVariables false

/-- An instant in one that is a period. -/
def inB (l : List Per) (t : Int) : Bool := l.any fun p => rightB p && hasB p t
theorem inB_iff (l : List Per) (t : Int) : inB l t = true ↔ In l t := by
  simp only [inB, List.any_eq_true, Bool.and_eq_true, rightB_iff, hasB_iff, In]
theorem inB_snoc (l : List Per) (k : Nat) (p : Per) (t : Int) (h : l[k]? = some p) : inB (l.take (k + 1)) t = (inB (l.take k) t || (rightB p && hasB p t)) := by
  rw [take_snoc l k p h]
  simp [inB]
theorem bool_eq {x y : Bool} (h : x = true ↔ y = true) : x = y := by
  cases x <;> cases y <;> simp_all
theorem union_memB {L O : List Per} (h : IsUnion L O) (t : Int) : memB O t = inB L t := bool_eq (by rw [memB_iff, inB_iff, h.mem])
theorem minus_memB {a : Per} {L O : List Per} (h : IsMinus a L O) (t : Int) : memB O t = (rightB a && hasB a t && !inB L t) := by
  apply bool_eq
  rw [memB_iff, h.mem]
  simp only [Bool.and_eq_true, rightB_iff, hasB_iff, Bool.not_eq_true', ← inB_iff, and_assoc]
  simp

set_option maxRecDepth 100000 in
set_option maxHeartbeats 4000000 in
theorem instants_walk (p : Per) (a : Option Addr) (c : Nat) (L : List Per) (t : Int) (w : World) (hv : Pers w a L) (hL : L.length ≤ 8796093022000) :
    Calls Try.prog 4 #[perV p, .slice a L.length c, .int .i64 t] w fun e w' => e = .returned (.bool true) ∧ Fr w w' (fun _ => False) := by
  have FA := Fr.alloc w (.cells #[.int .i64 p.lo, .int .i64 p.hi] 23) (fun _ => False)
  have HFA := hide FA
  have HV := hide (hv.fr FA (fun _ _ _ _ h => h))
  have HT := hide (two_of (heap_alloc_new w (.cells #[.int .i64 p.lo, .int .i64 p.hi] 23)))
  unfold perV
  clear hv FA
  go_enter Try.func4, Try.ntmps4
  go_wp2_with fail
  obtain ⟨W0, hW0⟩ : ∃ W0, W0 = w.alloc (.cells #[.int .i64 p.lo, .int .i64 p.hi] 23) := ⟨_, rfl⟩
  obtain ⟨gb, hgb⟩ : ∃ gb, gb = w.heap.size := ⟨_, rfl⟩
  rw [← hW0] at HFA HV HT ⊢
  rw [← hgb] at HT ⊢
  clear hW0 hgb
  refine (awake_any W0).mono ?_
  rintro e W1 ⟨rfl, f1⟩
  have HF1 := hide ((HFA.out.trans f1).mono (Y := fun _ => False) (by simp))
  have HV1 := hide (HV.out.fr f1 (fun _ _ _ _ h => h))
  have HT1 := hide (HT.out.fr f1 (fun h => h))
  clear f1 HFA HV HT
  go_wp2_with fail
  go_loopw [7, 18] (fun x i wr => ∃ k : Nat, k ≤ L.length ∧ x = .bool (inB (L.take k) t) ∧ i = .int .i64 k ∧ Fr W1 wr (fun _ => False)) (fun _ i _ => L.length - (intOf i).toNat)
  case atStart => exact ⟨0, by omega, by simp [inB], rfl, Fr.refl _ _⟩
  case round =>
    rename World => W
    obtain ⟨k, hk, rfl, rfl, hf⟩ := hrel
    have HF := hide hf
    clear hf
    by_cases hlt : k < L.length
    · obtain ⟨q, hq⟩ : ∃ q, L[k]? = some q := ⟨_, List.getElem?_eq_getElem hlt⟩
      obtain ⟨g, off, rfl, d0, d1⟩ := HV1.out.get HF.out k q hq
      have hck := check_any q
      have hhs := has_any q t
      have FB := Fr.alloc W (.cells #[.int .i64 q.lo, .int .i64 q.hi] 23) (fun _ => False)
      have HNB := hide (two_of (heap_alloc_new W (.cells #[.int .i64 q.lo, .int .i64 q.hi] 23)))
      have HFB := hide ((HF.out.trans FB).mono (Y := fun _ => False) (by simp))
      have HM := hide (inB_snoc L k q t hq)
      unfold perV at hck hhs
      clear hq FB
      by_cases hfd : inB (L.take k) t = true
      · rw [hfd]
        have hmm : inB (L.take (k + 1)) t = true := by rw [HM.out, hfd]; rfl
        go_wp2
        go_roundw
        case rel => exact ⟨k + 1, by omega, by rw [hmm], by go_num, HFB.out⟩
        case measure => simp [intOf]; omega
      · have hfd' : inB (L.take k) t = false := by simpa using hfd
        rw [hfd']
        go_wp2_with fail
        generalize W.alloc (.cells #[.int .i64 q.lo, .int .i64 q.hi] 23) = W2 at *
        refine (hck W2).mono ?_
        rintro e W3 ⟨rfl, f3⟩
        have HF3 := hide ((HFB.out.trans f3).mono (Y := fun _ => False) (by simp))
        have hn3 := HNB.out.fr f3 (fun h => h)
        have n0 := hn3.1
        have n1 := hn3.2.1
        clear f3 hn3 HFB HNB hck
        by_cases hr : rightB q = true
        · rw [codeP_ok q hr]
          have hmm : inB (L.take (k + 1)) t = hasB q t := by rw [HM.out, hfd', hr]; rfl
          go_wp2_with fail
          refine (hhs W3).mono ?_
          rintro e W4 ⟨rfl, f4⟩
          have HF4 := hide ((HF3.out.trans f4).mono (Y := fun _ => False) (by simp))
          clear f4 hhs HF3 n0 n1
          go_wp2
          go_roundw
          case rel => exact ⟨k + 1, by omega, by rw [hmm], by go_num, HF4.out⟩
          case measure => simp [intOf]; omega
        · have hr' : rightB q = false := by simpa using hr
          rw [codeP_no q hr']
          have hmm : inB (L.take (k + 1)) t = false := by rw [HM.out, hfd', hr']; rfl
          go_wp2
          go_roundw
          case rel => exact ⟨k + 1, by omega, by rw [hmm], by go_num, HF3.out⟩
          case measure => simp [intOf]; omega
    · obtain rfl : k = L.length := by omega
      rw [List.take_length]
      have HVW := hide (HV1.out.fr HF.out (fun _ _ _ _ h => h))
      have HTW := hide (HT1.out.fr HF.out (fun h => h))
      have HFW := hide ((HF1.out.trans HF.out).mono (Y := fun _ => False) (by simp))
      clear HV1 HT1 HF1 HF
      go_wp2_with fail
      refine (union_any a c L W HVW.out hL).mono ?_
      rintro e W2 ⟨v2, O2, rfl, ho2, hu2, f2, _⟩
      have HF2 := hide ((HFW.out.trans f2).mono (Y := fun _ => False) (by simp))
      have HV2 := hide (HVW.out.fr f2 (fun _ _ _ _ h => h))
      have HT2 := hide (HTW.out.fr f2 (fun h => h))
      have HO2 := hide ho2
      have HU2 := hide hu2
      obtain ⟨a2, c2, hv2, _, _⟩ := ho2.shape
      subst hv2
      clear f2 ho2 hu2 HVW HTW HFW
      go_wp2_with fail
      refine (in_any a2 c2 O2 t W2 HO2.out.pers (by have := HU2.out.len; omega) HU2.out.canon HU2.out.right).mono ?_
      rintro e W3 ⟨rfl, f3⟩
      rw [union_memB HU2.out t]
      have HF3 := hide ((HF2.out.trans f3).mono (Y := fun _ => False) (by simp))
      have HV3 := hide (HV2.out.fr f3 (fun _ _ _ _ h => h))
      have HT3 := hide (HT2.out.fr f3 (fun h => h))
      have t0 := HT3.out.1
      have t1 := HT3.out.2.1
      clear f3 HF2 HV2 HT2 HO2 HU2
      go_wp2_with fail
      refine (minus_any p a c L W3 HV3.out hL).mono ?_
      rintro e W4 ⟨v4, O4, rfl, ho4, hu4, f4, _⟩
      have HF4 := hide ((HF3.out.trans f4).mono (Y := fun _ => False) (by simp))
      have HT4 := hide (HT3.out.fr f4 (fun h => h))
      have HO4 := hide ho4
      have HU4 := hide hu4
      obtain ⟨a4, c4, hv4, _, _⟩ := ho4.shape
      subst hv4
      clear f4 ho4 hu4 HF3 HV3 HT3 t0 t1
      go_wp2_with fail
      refine (in_any a4 c4 O4 t W4 HO4.out.pers (by have := HU4.out.len; omega) HU4.out.canon HU4.out.right).mono ?_
      rintro e W5 ⟨rfl, f5⟩
      rw [minus_memB HU4.out t]
      have HF5 := hide ((HF4.out.trans f5).mono (Y := fun _ => False) (by simp))
      have ht5 := HT4.out.fr f5 (fun h => h)
      have t0 := ht5.1
      have t1 := ht5.2.1
      have hck := check_any p
      have hhs := has_any p t
      have HT5 := hide ht5
      unfold perV at hck hhs
      clear f5 ht5 HF4 HT4 HO4 HU4
      generalize inB L t = u
      by_cases hr : rightB p = true
      · rw [codeP_ok p hr] at hck
        rw [hr]
        go_wp2_with fail
        refine (hck W5).mono ?_
        rintro e W6 ⟨rfl, f6⟩
        have HF6 := hide ((HF5.out.trans f6).mono (Y := fun _ => False) (by simp))
        have ht6 := HT5.out.fr f6 (fun h => h)
        have s0 := ht6.1
        have s1 := ht6.2.1
        clear f6 ht6 t0 t1 HF5 HT5
        go_wp2_with fail
        refine (hhs W6).mono ?_
        rintro e W7 ⟨rfl, f7⟩
        have HF7 := hide ((HF6.out.trans f7).mono (Y := fun _ => False) (by simp))
        clear f7 s0 s1 HF6
        generalize hasB p t = z
        cases u <;> cases z
        all_goals (go_wp2; go_ret; exact ⟨rfl, HF7.out⟩)
      · have hr' : rightB p = false := by simpa using hr
        rw [codeP_no p hr'] at hck
        rw [hr']
        go_wp2_with fail
        refine (hck W5).mono ?_
        rintro e W6 ⟨rfl, f6⟩
        have HF6 := hide ((HF5.out.trans f6).mono (Y := fun _ => False) (by simp))
        clear f6 t0 t1 HF5 HT5
        cases u
        all_goals (go_wp2; go_ret; exact ⟨rfl, HF6.out⟩)
end Go.Proofs.Ytaikhmedehbfbaa
