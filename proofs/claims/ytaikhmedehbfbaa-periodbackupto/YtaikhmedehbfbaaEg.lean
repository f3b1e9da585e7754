/- The walk of Edges. -/
import Derived.Test.YtaikhmedehbfbaaEd
namespace Go.Proofs.Ytaikhmedehbfbaa
open Go.RowKit
set_option linter.unusedVariables false

def ends (L : List Per) : List Int := L.flatMap fun p => [p.lo, p.hi]
theorem ends_snoc (L : List Per) (k : Nat) (p : Per) (h : L[k]? = some p) : ends (L.take (k + 1)) = ends (L.take k) ++ [p.lo, p.hi] := by
  rw [take_snoc L k p h]; simp [ends]
theorem length_ends (L : List Per) : (ends L).length = 2 * L.length := by
  induction L with
  | nil => rfl
  | cons p L ih => simp only [ends, List.flatMap_cons, List.length_append, List.length_cons, List.length_nil] at *; omega
theorem mem_ends (L : List Per) (t : Int) : t ∈ ends L ↔ ∃ p ∈ L, t = p.lo ∨ t = p.hi := by simp [ends]
theorem edges_spec (L : List Per) : IsEdges L (Lib.compact ((ends (L.filter rightB)).mergeSort fun x y => decide (x ≤ y))) := by
  have hs : ((ends (L.filter rightB)).mergeSort fun x y => decide (x ≤ y)).Pairwise (· ≤ ·) := by
    have h := List.pairwise_mergeSort (le := fun x y : Int => decide (x ≤ y)) (fun a b c h1 h2 => by simp at *; omega) (fun a b => by simp; omega) (ends (L.filter rightB))
    exact h.imp (fun h => by simpa using h)
  obtain ⟨h1, h2⟩ := compact_sorted _ hs
  refine ⟨h1, fun t => ?_⟩
  rw [h2, List.mem_mergeSort, mem_ends]
  constructor
  · rintro ⟨p, hp, h⟩
    exact ⟨p, (List.mem_filter.1 hp).1, (rightB_iff p).1 (List.mem_filter.1 hp).2, h⟩
  · rintro ⟨p, hp, h3, h⟩
    exact ⟨p, List.mem_filter.2 ⟨hp, (rightB_iff p).2 h3⟩, h⟩

set_option maxRecDepth 100000 in
set_option maxHeartbeats 2000000 in
theorem edges_any (a : Option Addr) (c : Nat) (L : List Per) (w : World) (hv : Pers w a L) (hL : L.length ≤ 8796093022000) :
    Calls Try.prog 9 #[.slice a L.length c] w fun e w' => ∃ v E, e = .returned v ∧ OwnI w' v E ∧ IsEdges L E ∧ E.length ≤ 2 * L.length ∧ Fr w w' (fun _ => False) ∧ ∀ q, v.ownBlock = some q → w.heap.size ≤ q := by
  have HV := hide hv
  clear hv
  go_enter Try.func9, Try.ntmps9
  go_wp2_with fail
  refine (periodsOf_any a c L _ HV.out hL).mono ?_
  rintro e V1 ⟨v1, rfl, ho1, hf1, hX1⟩
  obtain ⟨P, hP⟩ : ∃ P, P = L.filter rightB := ⟨_, rfl⟩
  have hPl : P.length ≤ L.length := by rw [hP]; exact List.length_filter_le _ _
  have HPE := hide hP
  rw [← hP] at ho1
  obtain ⟨a1, c1, hv1, _, _⟩ := ho1.shape
  subst hv1
  have HO1 := hide ho1
  have HF1 := hide hf1
  have hs1 := hf1.size
  clear ho1 hf1 hX1 HV hP
  go_wp2_with fail
  go_loopw [3, 9] (fun x i wr => ∃ k : Nat, k ≤ P.length ∧ i = .int .i64 k ∧ OwnI wr x (ends (P.take k)) ∧ Fr V1 wr (fun _ => False) ∧ ∀ q, x.ownBlock = some q → V1.heap.size ≤ q) (fun _ i _ => P.length - (intOf i).toNat)
  case atStart => exact ⟨0, by omega, rfl, OwnI.nil _, Fr.refl _ _, by simp [Value.ownBlock]⟩
  case round =>
    rename World => W
    obtain ⟨k, hk, rfl, ho, hf, hX⟩ := hrel
    have HO := hide ho
    have HF := hide hf
    have HX := hide hX
    clear ho hf hX
    by_cases hlt : k < P.length
    · obtain ⟨p, hp⟩ : ∃ p, P[k]? = some p := ⟨_, List.getElem?_eq_getElem hlt⟩
      obtain ⟨g, off, rfl, c0, c1⟩ := HO1.out.pers.get HF.out k p hp
      have HS := hide (ends_snoc P k p hp)
      have FA := Fr.alloc W (.cells #[.int .i64 p.lo, .int .i64 p.hi] 23) (fun _ => False)
      have HFA := hide ((HF.out.trans FA).mono (Y := fun _ => False) (by simp))
      have HOA := hide (HO.out.fr FA (fun _ _ h => h))
      have hsA : (W.alloc (.cells #[.int .i64 p.lo, .int .i64 p.hi] 23)).heap.size = W.heap.size + 1 := by simp
      have hln : (ends (P.take k)).length = 2 * k := by rw [length_ends, List.length_take]; omega
      clear hp FA
      go_wp2_with (refine wpList_pushI rfl (.tmp 13) (.tmp 18) rfl u3 _ rfl HOA.out [p.lo, p.hi] _ 2 2 rfl rfl hsA (by rw [hln]; simp; omega) _ rfl ?_; intro v4 W4 ho4 hf4 hr4; have HO4 := hide ho4; have HF4 := hide hf4; have HR4 := hide hr4; clear ho4 hf4 hr4)
      go_roundw
      case rel =>
        refine ⟨k + 1, by omega, by go_num, by rw [HS.out]; exact HO4.out, (HFA.out.trans HF4.out).mono (fun q hq h => by rcases h with h | h; exact h; (have := HX.out q h; omega)), HR4.out.le (by have := HFA.out.size; omega) HX.out⟩
      case measure => simp [intOf]; omega
    · obtain rfl : k = P.length := by omega
      have hln : (ends P).length = 2 * P.length := length_ends P
      rw [List.take_length] at HO
      go_wp2_with fail
      refine (sortI_any u3 _ W HO.out (by omega)).mono ?_
      rintro e W3 ⟨rfl, ho3, f3⟩
      have HO3 := hide ho3
      have HF3 := hide (((HF1.out.trans HF.out).trans f3).mono (Y := fun _ => False) (fun q hq h => by rcases h with (h | h) | h; exact h; exact h; (have := HX.out q h; omega)))
      clear ho3 f3
      go_wp2_with fail
      refine (compactI_any u3 _ W3 HO3.out (by simp; omega)).mono ?_
      rintro e W4 ⟨v4, rfl, ho4, hb4, f4⟩
      have HO4 := hide ho4
      have HF4 := hide ((HF3.out.trans f4).mono (Y := fun _ => False) (fun q hq h => by rcases h with h | h; exact h; (have := HX.out q h; omega)))
      have HB4 := hide hb4
      clear ho4 f4 hb4
      go_wp2
      go_ret
      refine ⟨_, _, rfl, HO4.out, ?_, ?_, HF4.out, fun q hq => ?_⟩
      · rw [HPE.out]; exact edges_spec L
      · have := compact_len ((ends P).mergeSort fun x y => decide (x ≤ y)); simp at this; omega
      · have hq' : v4.ownBlock = some q := hq
        rw [HB4.out] at hq'
        have := HX.out q hq'
        omega
end Go.Proofs.Ytaikhmedehbfbaa
