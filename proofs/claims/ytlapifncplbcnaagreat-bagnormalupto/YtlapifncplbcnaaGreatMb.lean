/- The edges of steps, in the order of time. -/
import Derived.Test.YtlapifncplbcnaaGreatMa
namespace Go.Proofs.YtlapifncplbcnaaGreat
open Go.RowKit Go.Sort Go.Shelf
set_option maxRecDepth 100000
set_option linter.unusedVariables false
set_option linter.unusedSimpArgs false

theorem edges_of_sort {S : List St} {T : List Ed} (hp : T.Perm (edgesL 0 S)) (hs : T.Pairwise (fun x y => 0 ≤ cmpI y.t x.t)) (hr : ∀ s ∈ S, s.lo < s.hi) : Edg S T := by
  refine ⟨hp, hs.imp ?_, hr⟩
  intro x y h
  have h1 := (good_int Ed.t).neg x y
  exact cmpI_nonpos.1 (by omega)
set_option maxHeartbeats 4000000 in
theorem edgesOf_any {w : World} {a : Option Addr} {c : Nat} {S : List St} (hL : Row elS w a S) (hl : S.length ≤ 549755813888) (hr : ∀ s ∈ S, s.lo < s.hi) :
    Calls Tryz.prog 96 #[.slice a S.length c] w fun e w' => ∃ v' E, e = .returned v' ∧ Own elE w' v' E ∧ Edg S E ∧ (∀ q, v'.ownBlock = some q → w.heap.size ≤ q) ∧ Fr w w' (fun _ => False) := by
  have HL := hide hL
  have HRR := hide hr
  obtain ⟨m, hm⟩ : ∃ m, m = S.length := ⟨_, rfl⟩
  rw [← hm] at hl ⊢
  have HM := hide hm
  clear hL hm hr
  go_enter Tryz.func96, Tryz.ntmps96
  go_wp2
  go_loopw [3, 8] (fun v i wr => ∃ k : Nat, i = .int .i64 (k : Int) ∧ k ≤ m ∧ Own elE wr v (edgesL 0 (S.take k)) ∧ (∀ q, v.ownBlock = some q → w.heap.size ≤ q) ∧ Fr w wr (fun _ => False)) (fun _ i _ => m - (intOf i).toNat)
  case atStart => exact ⟨0, rfl, Nat.zero_le _, Own.nil elE _, (by intro q hq; cases hq), Fr.refl _ _⟩
  case round =>
    rename World => w7
    obtain ⟨k, rfl, hk, ho, hb, hf⟩ := hrel
    have HO := hide ho
    have HB := hide hb
    have HF := hide hf
    clear ho hb hf
    by_cases hlt : k < m
    · obtain ⟨x, hx⟩ : ∃ p, S[k]? = some p := ⟨_, List.getElem?_eq_getElem (by rw [← HM.out]; exact hlt)⟩
      have HX := hide hx
      obtain ⟨g, off, rfl, hg, c0, c1, c2, c3⟩ := rowS_at (HL.out.fr HF.out (fun _ _ _ _ h => h)) hx
      have FA := hide (Fr.alloc w7 (.cells #[.int .i64 x.lo, .int .i64 x.hi, .slice x.p x.row.length x.c, .int .i64 x.n] 79) (fun _ => False))
      have HO8 := hide (HO.out.fr FA.out (fun _ _ h => h))
      have HLE := hide (show (edgesL 0 (S.take k)).length ≤ 1099511627776 by rw [edgesL_length, List.length_take, ← HM.out]; omega)
      have HE := hide (edges_take HX.out)
      clear hx
      go_wp2_with (refine wpList_push elE rfl (.tmp 13) (.tmp 24) rfl u3 _ rfl HO8.out [⟨x.lo, (k : Int), 1⟩, ⟨x.hi, (k : Int), -1⟩] _ 2 2 rfl rfl (by first | rfl | simp) (by have := HLE.out; simp only [List.length_cons, List.length_nil]; omega) _ rfl ?_; intro v' w10 ho hf hr2; have HO10 := hide ho; have HF10 := hide hf; have HR10 := hide hr2; clear ho hf hr2)
      go_roundw
      case rel =>
        refine ⟨k + 1, by go_num, by omega, by rw [HE.out]; exact HO10.out, HR10.out.le (HF.out.trans FA.out).size HB.out, ((HF.out.trans FA.out).trans HF10.out).mono ?_⟩
        rintro q hq ((h | h) | h)
        · exact h
        · exact h
        · have := HB.out q h; omega
      case measure => simp [intOf]; omega
    · obtain rfl : k = m := by omega
      have HE := hide (show edgesL 0 (S.take k) = edgesL 0 S by rw [HM.out, List.take_length])
      have HO2 : Hid (Own elE w7 u3 (edgesL 0 S)) := hide (by rw [← HE.out]; exact HO.out)
      have HSL := hide (show (edgesL 0 S).length ≤ 2199023255552 by rw [edgesL_length, ← HM.out]; omega)
      go_wp2_with (go_at_call 122; refine (sortE_any _ _ _ HO2.out HSL.out).mono ?_; rintro e w9 ⟨rfl, T, hp, hs, ho, hf⟩; have HP := hide hp; have HS := hide hs; have HO9 := hide ho; have HF9 := hide hf; clear hp hs ho hf)
      go_ret
      refine ⟨u3, T, rfl, HO9.out, edges_of_sort HP.out HS.out HRR.out, HB.out, (HF.out.trans HF9.out).mono ?_⟩
      rintro q hq (h | h)
      · exact h
      · have := HB.out q h; omega
end Go.Proofs.YtlapifncplbcnaaGreat
