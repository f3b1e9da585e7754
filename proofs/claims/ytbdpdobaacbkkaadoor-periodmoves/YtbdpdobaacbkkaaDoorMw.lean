/- The walk of Minus. -/
import Derived.Test.YtbdpdobaacbkkaaDoorMi
namespace Go.Proofs.YtbdpdobaacbkkaaDoor
open Go.RowKit
set_option linter.unusedVariables false

set_option maxRecDepth 100000 in
set_option maxHeartbeats 2000000 in
theorem minus_any (b : Per) (a : Option Addr) (c : Nat) (L : List Per) (w : World) (hv : Pers w a L) (hL : L.length ≤ 8796093022000) :
    Calls Tryd.prog 14 #[perV b, .slice a L.length c] w fun e w' => ∃ v O, e = .returned v ∧ OwnP w' v O ∧ IsMinus b L O ∧ Fr w w' (fun _ => False) ∧ ∀ q, v.ownBlock = some q → w.heap.size ≤ q := by
  have FA := Fr.alloc w (.cells #[.int .i64 b.lo, .int .i64 b.hi] 23) (fun _ => False)
  have HFA := hide FA
  have HV := hide (hv.fr FA (fun _ _ _ _ h => h))
  have HT := hide (two_of (heap_alloc_new w (.cells #[.int .i64 b.lo, .int .i64 b.hi] 23)))
  have hck := check_any b
  unfold perV at hck ⊢
  clear hv FA
  go_enter Tryd.func14, Tryd.ntmps14
  go_wp2_with fail
  obtain ⟨W0, hW0⟩ : ∃ W0, W0 = w.alloc (.cells #[.int .i64 b.lo, .int .i64 b.hi] 23) := ⟨_, rfl⟩
  obtain ⟨gb, hgb⟩ : ∃ gb, gb = w.heap.size := ⟨_, rfl⟩
  rw [← hW0] at HFA HV HT ⊢
  rw [← hgb] at HT ⊢
  have hbw : w.heap.size ≤ gb := by omega
  clear hW0 hgb
  refine (hck W0).mono ?_
  rintro e W1 ⟨rfl, f1⟩
  have HF1 := hide ((HFA.out.trans f1).mono (Y := fun _ => False) (by simp))
  have HV1 := hide (HV.out.fr f1 (fun _ _ _ _ h => h))
  have HT1 := hide (HT.out.fr f1 (fun h => h))
  clear f1 HFA HV HT hck
  by_cases hr : rightB b = true
  · rw [codeP_ok b hr]
    have hrb := (rightB_iff b).1 hr
    have HRB := hide hrb
    clear hrb
    go_wp2_with fail
    refine (without29_any b gb a c L W1 HV1.out hL HT1.out).mono ?_
    rintro e W2 ⟨v2, rfl, ho2, f2, hX2⟩
    have HF2 := hide ((HF1.out.trans f2).mono (Y := fun _ => False) (by simp))
    have HT2 := hide (HT1.out.fr f2 (fun h => h))
    have hl2 : (L.filter (overB b)).length ≤ L.length := List.length_filter_le _ _
    obtain ⟨a2, c2, hv2, _, _⟩ := ho2.shape
    subst hv2
    have HP2 := hide ho2.pers
    clear ho2 f2 hX2 HV1 HT1 HF1
    go_wp2_with fail
    refine (union_any a2 c2 (L.filter (overB b)) W2 HP2.out (by omega)).mono ?_
    rintro e W3 ⟨v3, C, rfl, ho3, hu, f3, hX3⟩
    have HF3 := hide ((HF2.out.trans f3).mono (Y := fun _ => False) (by simp))
    have HT3 := hide (HT2.out.fr f3 (fun h => h))
    have HU := hide hu
    have hlC := hu.len
    obtain ⟨a3, c3, hv3, hc3, _⟩ := ho3.shape
    subst hv3
    have HO3 := hide ho3
    clear ho3 f3 hX3 hu HP2 HT2 HF2
    have t0 := HT3.out.1
    go_wp2_with fail
    clear t0
    go_loopw [6, 7, 21] (fun x y i wr => ∃ (k : Nat) (f : Int) (O : List Per), k ≤ C.length ∧ y = .int .i64 f ∧ i = .int .i64 k ∧ OwnP wr x O ∧ Cutting b C k f O ∧ Fr W3 wr (fun _ => False) ∧ ∀ q, x.ownBlock = some q → W3.heap.size ≤ q) (fun _ _ i _ => C.length - (intOf i).toNat)
    case atStart => exact ⟨0, b.lo, [], by omega, rfl, rfl, OwnP.nil _, Cutting.start b C, Fr.refl _ _, by simp [Value.ownBlock]⟩
    case round =>
      rename World => W
      obtain ⟨k, f, O, hk, rfl, rfl, ho, hcu, hf, hX⟩ := hrel
      have HO := hide ho
      have HC := hide hcu
      have HF := hide hf
      have HX := hide hX
      have hlenO := hcu.len
      clear ho hcu hf hX
      by_cases hlt : k < C.length
      · obtain ⟨p, hp⟩ : ∃ p, C[k]? = some p := ⟨_, List.getElem?_eq_getElem hlt⟩
        obtain ⟨g, off, rfl, c0, c1⟩ := HO3.out.pers.get HF.out k p hp
        have HP := hide hp
        have HCF := hide (cut_facts HU.out p (List.mem_of_getElem? hp))
        have FA := Fr.alloc W (.cells #[.int .i64 p.lo, .int .i64 p.hi] 23) (fun _ => False)
        have HNA := hide (two_of (heap_alloc_new W (.cells #[.int .i64 p.lo, .int .i64 p.hi] 23)))
        have HFA := hide ((HF.out.trans FA).mono (Y := fun _ => False) (by simp))
        have HOA := hide (HO.out.fr FA (fun _ _ h => h))
        have hsA : (W.alloc (.cells #[.int .i64 p.lo, .int .i64 p.hi] 23)).heap.size = W.heap.size + 1 := by simp
        clear hp FA
        by_cases hfl : f < p.lo
        · go_wp2_with (refine wpList_pushP rfl (.tmp 29) (.tmp 34) rfl u6 O rfl HOA.out ⟨f, p.lo⟩ _ rfl hsA (by omega) ?_; intro v4 W4 ho4 hf4 hr4; have HO4 := hide ho4; have HF4 := hide hf4; have HR4 := hide hr4; have hn4 := HNA.out.fr hf4 (fun h => by have := (HO.out.lt _ h).2; omega); have n1 := hn4.2.1; clear ho4 hf4 hr4 hn4)
          go_roundw
          case rel =>
            refine ⟨k + 1, p.hi, O ++ [⟨f, p.lo⟩], by omega, rfl, by go_num, HO4.out, HC.out.gap HU.out.canon p HP.out HCF.out.1 HCF.out.2.2 HRB.out.1 hfl, (HFA.out.trans HF4.out).mono (fun q hq h => by rcases h with h | h; exact h; (have := HX.out q h; omega)), HR4.out.le (by have := HF.out.size; omega) HX.out⟩
          case measure => simp [intOf]; omega
        · go_wp2
          go_roundw
          case rel => exact ⟨k + 1, p.hi, O, by omega, rfl, by go_num, HOA.out, HC.out.none HU.out.canon p HP.out HCF.out.1 HCF.out.2.2 hfl, HFA.out, HX.out⟩
          case measure => simp [intOf]; omega
      · obtain rfl : k = C.length := by omega
        have htb := HT3.out.fr HF.out (fun h => h)
        have b1 := htb.2.1
        have hs3 := HF3.out.size
        clear htb
        by_cases hfe : f < b.hi
        · go_wp2_with (refine wpList_pushP rfl (.tmp 43) (.tmp 48) rfl u6 O rfl HO.out ⟨f, b.hi⟩ _ rfl rfl (by omega) ?_; intro v4 W4 ho4 hf4 hr4; have HO4 := hide ho4; have HF4 := hide hf4; have HR4 := hide hr4; clear ho4 hf4 hr4)
          go_ret
          exact ⟨_, _, rfl, HO4.out, HC.out.fin HU.out HRB.out hfe, ((HF3.out.trans HF.out).trans HF4.out).mono (fun q hq h => by rcases h with (h | h) | h; exact h; exact h; (have := HX.out q h; omega)), HR4.out.le (by have := HF.out.size; omega) (fun q hq => by have := HX.out q hq; omega)⟩
        · go_wp2
          go_ret
          exact ⟨_, rfl, O, HO.out, HC.out.fin0 HU.out HRB.out (by omega), (HF3.out.trans HF.out).mono (by simp), fun q hq => by have := HX.out q hq; omega⟩
  · have hr' : rightB b = false := by simpa using hr
    rw [codeP_no b hr']
    go_wp2
    go_ret
    exact ⟨_, [], rfl, OwnP.nil _, isMinus_wrong b L (fun h => by rw [(rightB_iff b).2 h] at hr'; cases hr'), HF1.out, by simp [Value.ownBlock]⟩
end Go.Proofs.YtbdpdobaacbkkaaDoor
