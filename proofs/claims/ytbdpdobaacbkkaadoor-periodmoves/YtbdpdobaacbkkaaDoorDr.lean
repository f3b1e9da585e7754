/- The walk of without, over those that have nothing in common with one. -/
import Derived.Test.YtbdpdobaacbkkaaDoorOv
namespace Go.Proofs.YtbdpdobaacbkkaaDoor
open Go.RowKit
set_option linter.unusedVariables false

set_option maxRecDepth 100000 in
set_option maxHeartbeats 1000000 in
theorem drop29_any (a p : Per) (g : Nat) (w : World) (ht : Two w g (.int .i64 a.lo) (.int .i64 a.hi)) : Calls Tryd.prog 18 #[perV p, .pointer (some ⟨g, 0, none⟩)] w fun e w' => e = .returned (.bool (!overB a p)) ∧ Fr w w' (fun _ => False) := by
  have FA := Fr.alloc w (.cells #[.int .i64 p.lo, .int .i64 p.hi] 23) (fun _ => False)
  have HFA := hide FA
  have hta := ht.fr FA (fun h => h)
  have a0 := hta.1
  have a1 := hta.2.1
  have ho := overlap_any a p
  unfold perV at ho ⊢
  clear FA ht hta
  go_enter Tryd.func18, Tryd.ntmps18
  go_wp2_with fail
  refine (ho _).mono ?_
  rintro e V ⟨rfl, f⟩
  have HF := hide ((HFA.out.trans f).mono (Y := fun _ => False) (by simp))
  clear f ho HFA
  go_wp2
  go_ret
  exact ⟨rfl, (HF.out.trans (Fr.alloc V _ (fun _ => False))).mono (by simp)⟩

set_option maxRecDepth 100000 in
set_option maxHeartbeats 1000000 in
theorem without29_any (b : Per) (gb : Nat) (a : Option Addr) (c : Nat) (L : List Per) (w : World) (hv : Pers w a L) (hL : L.length ≤ 8796093022000) (ht : Two w gb (.int .i64 b.lo) (.int .i64 b.hi)) :
    Calls Tryd.prog 17 #[.slice a L.length c, .func (.func 18) #[] #[.pointer (some ⟨gb, 0, none⟩)]] w fun e w' => ∃ v, e = .returned v ∧ OwnP w' v (L.filter (overB b)) ∧ Fr w w' (fun _ => False) ∧ ∀ q, v.ownBlock = some q → w.heap.size ≤ q := by
  have HV := hide hv
  have HTB := hide ht
  clear hv ht
  go_enter Tryd.func17, Tryd.ntmps17
  go_wp2_with fail
  go_loopw [5, 10] (fun x i wr => ∃ k : Nat, k ≤ L.length ∧ i = .int .i64 k ∧ OwnP wr x ((L.take k).filter (overB b)) ∧ Fr w wr (fun _ => False) ∧ ∀ q, x.ownBlock = some q → w.heap.size ≤ q) (fun _ i _ => L.length - (intOf i).toNat)
  case atStart => exact ⟨0, by omega, rfl, OwnP.nil _, Fr.refl _ _, by simp [Value.ownBlock]⟩
  case round =>
    rename World => W
    obtain ⟨k, hk, rfl, ho, hf, hX⟩ := hrel
    have HO := hide ho
    have HF := hide hf
    have HX := hide hX
    clear ho hf hX
    by_cases hlt : k < L.length
    · obtain ⟨p, hp⟩ : ∃ p, L[k]? = some p := ⟨_, List.getElem?_eq_getElem hlt⟩
      obtain ⟨g, off, rfl, c0, c1⟩ := HV.out.get HF.out k p hp
      have HS := hide (filter_take_succ (overB b) L k p hp)
      have FA := Fr.alloc W (.cells #[.int .i64 p.lo, .int .i64 p.hi] 23) (fun _ => False)
      have HNA := hide (two_of (heap_alloc_new W (.cells #[.int .i64 p.lo, .int .i64 p.hi] 23)))
      have HFA := hide ((HF.out.trans FA).mono (Y := fun _ => False) (by simp))
      have HOA := hide (HO.out.fr FA (fun _ _ h => h))
      have HTA := hide (HTB.out.fr HFA.out (fun h => h))
      clear hp FA
      go_wp2_with fail
      refine (drop29_any b p gb _ HTA.out).mono ?_
      rintro e V ⟨rfl, f⟩
      have HFV := hide ((HFA.out.trans f).mono (Y := fun _ => False) (by simp))
      have HOV := hide (HOA.out.fr f (fun _ _ h => h))
      have hT := HNA.out.fr f (fun h => h)
      have d0 := hT.1
      have d1 := hT.2.1
      have hsz := HFV.out.size
      clear f hT HNA HFA HOA HTA
      by_cases hr : overB b p = true
      · rw [hr]
        have hlen : ((L.take k).filter (overB b)).length ≤ k := Nat.le_trans (List.length_filter_le _ _) (by simp; omega)
        go_wp2_with (refine wpList_pushP rfl (.tmp 18) (.tmp 20) rfl u5 _ rfl HOV.out p _ rfl rfl (by omega) ?_; intro v4 W4 ho4 hf4 hr4; have HO4 := hide ho4; have HF4 := hide hf4; have HR4 := hide hr4; clear ho4 hf4 hr4)
        go_roundw
        case rel =>
          refine ⟨k + 1, by omega, by go_num, by rw [HS.out, if_pos hr]; exact HO4.out, (HFV.out.trans HF4.out).mono (fun q hq h => by rcases h with h | h; exact h; (have := HX.out q h; omega)), HR4.out.le hsz HX.out⟩
        case measure => simp [intOf]; omega
      · have hr' : overB b p = false := by simpa using hr
        rw [hr']
        go_wp2
        go_roundw
        case rel => exact ⟨k + 1, by omega, by go_num, by rw [HS.out, if_neg hr, List.append_nil]; exact HOV.out, HFV.out, HX.out⟩
        case measure => simp [intOf]; omega
    · obtain rfl : k = L.length := by omega
      go_wp2
      go_ret
      exact ⟨_, rfl, by have := HO.out; rwa [List.take_length] at this, HF.out, HX.out⟩
end Go.Proofs.YtbdpdobaacbkkaaDoor
