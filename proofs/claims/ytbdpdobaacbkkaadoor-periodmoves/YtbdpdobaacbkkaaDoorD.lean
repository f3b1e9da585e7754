/- The walk of without, over what is no period. -/
import Derived.Test.YtbdpdobaacbkkaaDoorC
namespace Go.Proofs.YtbdpdobaacbkkaaDoor
open Go.RowKit
set_option linter.unusedVariables false

theorem filter_take_succ (f : Per → Bool) (L : List Per) (k : Nat) (p : Per) (hp : L[k]? = some p) : (L.take (k + 1)).filter f = (L.take k).filter f ++ (if f p = true then [p] else []) := by
  rw [List.take_add_one, hp, Option.toList_some, List.filter_append]
  congr 1
  by_cases h : f p = true <;> simp [h]

set_option maxRecDepth 100000 in
set_option maxHeartbeats 1000000 in
theorem without_any (a : Option Addr) (c : Nat) (L : List Per) (w : World) (hv : Pers w a L) (hL : L.length ≤ 8796093022000) :
    Calls Tryd.prog 17 #[.slice a L.length c, .func (.func 23) #[] #[]] w fun e w' => ∃ v, e = .returned v ∧ OwnP w' v (L.filter rightB) ∧ Fr w w' (fun _ => False) ∧ ∀ q, v.ownBlock = some q → w.heap.size ≤ q := by
  have HV := hide hv
  clear hv
  go_enter Tryd.func17, Tryd.ntmps17
  go_wp2_with fail
  go_loopw [5, 10] (fun x i wr => ∃ k : Nat, k ≤ L.length ∧ i = .int .i64 k ∧ OwnP wr x ((L.take k).filter rightB) ∧ Fr w wr (fun _ => False) ∧ ∀ q, x.ownBlock = some q → w.heap.size ≤ q) (fun _ i _ => L.length - (intOf i).toNat)
  case atStart => exact ⟨0, by omega, rfl, OwnP.nil _, Fr.refl _ _, by simp [Value.ownBlock]⟩
  case round =>
    rename World => W
    obtain ⟨k, hk, rfl, ho, hf, hX⟩ := hrel
    have HO := hide ho
    have HF := hide hf
    have HX := hide hX
    clear ho hf hX
    by_cases hlt : k < L.length
    · obtain ⟨p, hp⟩ : ∃ p, L[k]? = some p := ⟨_, List.getElem?_eq_getElem hlt⟩
      obtain ⟨g, off, rfl, c0, c1⟩ := HV.out.get HF.out k p hp
      have HS := hide (filter_take_succ rightB L k p hp)
      have FA := Fr.alloc W (.cells #[.int .i64 p.lo, .int .i64 p.hi] 23) (fun _ => False)
      have HNA := hide (two_of (heap_alloc_new W (.cells #[.int .i64 p.lo, .int .i64 p.hi] 23)))
      have HFA := hide ((HF.out.trans FA).mono (Y := fun _ => False) (by simp))
      have HOA := hide (HO.out.fr FA (fun _ _ h => h))
      clear hp FA
      go_wp2_with fail
      refine (drop_any p _).mono ?_
      rintro e V ⟨rfl, f⟩
      have HFV := hide ((HFA.out.trans f).mono (Y := fun _ => False) (by simp))
      have HOV := hide (HOA.out.fr f (fun _ _ h => h))
      have hT := HNA.out.fr f (fun h => h)
      have d0 := hT.1
      have d1 := hT.2.1
      have hsz := HFV.out.size
      clear f hT HNA HFA HOA
      by_cases hr : rightB p = true
      · rw [hr]
        have hlen : ((L.take k).filter rightB).length ≤ k := Nat.le_trans (List.length_filter_le _ _) (by simp; omega)
        go_wp2_with (refine wpList_pushP rfl (.tmp 18) (.tmp 20) rfl u5 _ rfl HOV.out p _ rfl rfl (by omega) ?_; intro v4 W4 ho4 hf4 hr4; have HO4 := hide ho4; have HF4 := hide hf4; have HR4 := hide hr4; clear ho4 hf4 hr4)
        go_roundw
        case rel =>
          refine ⟨k + 1, by omega, by go_num, by rw [HS.out, if_pos hr]; exact HO4.out, (HFV.out.trans HF4.out).mono (fun q hq h => by rcases h with h | h; exact h; (have := HX.out q h; omega)), HR4.out.le hsz HX.out⟩
        case measure => simp [intOf]; omega
      · have hr' : rightB p = false := by simpa using hr
        rw [hr']
        go_wp2
        go_roundw
        case rel => exact ⟨k + 1, by omega, by go_num, by rw [HS.out, if_neg hr, List.append_nil]; exact HOV.out, HFV.out, HX.out⟩
        case measure => simp [intOf]; omega
    · obtain rfl : k = L.length := by omega
      go_wp2
      go_ret
      exact ⟨_, rfl, by have := HO.out; rwa [List.take_length] at this, HF.out, HX.out⟩
end Go.Proofs.YtbdpdobaacbkkaaDoor
