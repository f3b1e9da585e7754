/- Both disks hold the same: looks tells so. -/
import Derived.Test.YtdbchicanlglhaaGd
namespace Go.Proofs.Ytdbchicanlglhaa
open Go.RowKit

set_option maxRecDepth 100000 in
set_option maxHeartbeats 8000000 in
theorem looks_any {W : World} {B b gs cs : Nat} {Cs : Array Value} {pv : Value} {a : Option Addr} {c : Nat} {a1 : Option Addr} {c1 : Nat} {S : List (List UInt8)} {L : List (Nat × List UInt8)} (h : Both W B b gs cs Cs pv a c a1 c1 S L) (hb : L.length ≤ 4194304) :
    Calls Try.prog 17 #[.pointer (some ⟨b, 0, none⟩), .agg #[.slice a S.length c, .slice a1 L.length c1]] W fun e W' => e = .returned (.bool true) ∧ Fr W W' (fun _ => False) := by
  have HH := hide h
  clear h
  go_enter Try.func17, Try.ntmps17
  go_wp2_with fail
  obtain ⟨W1, hW1⟩ : ∃ W1, W1 = W.alloc (.cells #[.slice a S.length c, .slice a1 L.length c1] 31) := ⟨_, rfl⟩
  have F1 : Fr W W1 (fun _ => False) := by rw [hW1]; exact Fr.alloc _ _ _
  have T1 : Two W1 W.heap.size (.slice a S.length c) (.slice a1 L.length c1) := by rw [hW1]; exact two_of (heap_alloc_new W _)
  rw [← hW1]
  have HF1 := hide F1
  have HT1 := hide T1
  have HB1 := hide (HH.out.fr (F1.mono (by simp)))
  have HHn2 := HH.out.n2
  clear hW1 F1 T1
  go_loopw [13] (fun i wr => ∃ k : Nat, k ≤ S.length ∧ i = .int .i64 k ∧ Fr W1 wr (fun _ => False)) (fun i _ => S.length - (intOf i).toNat)
  case atStart => exact ⟨0, Nat.zero_le _, rfl, Fr.refl _ _⟩
  case round =>
    obtain ⟨k, hk, rfl, hfr⟩ := hrel
    have HFR := hide hfr
    clear hfr
    have tt := HT1.out.fr HFR.out id
    have t0 := tt.1
    have t1 := tt.2.1
    have HB := hide (HB1.out.fr (HFR.out.mono (by simp)))
    clear tt
    by_cases hlt : k < S.length
    · obtain ⟨R, hR⟩ : ∃ R, R = latestOf S L k := ⟨_, rfl⟩
      have hRl : R.length = 256 := by rw [hR]; exact HB.out.d.latest_length k hlt
      have HR := hide hR
      clear hR
      go_wp2_with fail
      refine (read_any HB.out.d k k rfl hlt (by omega)).mono ?_
      rintro e W4 ⟨rfl, hb4, hs4, F4⟩
      rw [← HR.out] at hb4
      have x0 := (HT1.out.fr HFR.out id).fr F4 id
      have u0 := x0.1
      have u1 := x0.2.1
      have HB4 := hide (HB.out.fr (F4.mono (by simp)))
      have HF4 := hide (HFR.out.trans F4)
      have HR4 := hide (rangeAt_block hb4)
      clear hb4 hs4 F4 x0 t0 t1
      go_wp2_with fail
      refine (rread_any HB4.out.r k k rfl hlt (by omega)).mono ?_
      rintro e W5 ⟨rfl, F5⟩
      rw [← HR.out]
      have hcv := run_string W5 (some ⟨wr.heap.size + 1, 0, none⟩) 256 256 R (bin_range (rangeAt_fr HR4.out F5 id) hRl)
      have HF5 := hide ((HF4.out.trans F5).mono (Y := fun _ => False) (by simp))
      clear F5 u0 u1
      go_wp2
      go_roundw
      case rel => exact ⟨k + 1, by omega, by go_num, HF5.out⟩
      case measure => simp [intOf]; omega
    · obtain rfl : k = S.length := by omega
      obtain ⟨pa, pc, rfl, _⟩ := HB.out.d.pend_form
      go_wp2_with fail
      refine wp_region_K (fun _ => true) (fun V => Two V W.heap.size (.slice a S.length c) (.slice a1 L.length c1)) (by kernel_rfl) ?_
      have FD := Fr.drew wr (fun _ => False)
      have hS : Two wr.drew W.heap.size (.slice a S.length c) (.slice a1 L.length c1) := (HT1.out.fr HFR.out id).fr FD id
      have d1 := (HB.out.d.keep (FD.mono (by simp))).cell1
      have d0 := (HB.out.d.keep (FD.mono (by simp))).cell0
      refine wpAnyK_takeTo 0 (some 37) (.pointer (some ⟨b, 0, none⟩)) [] rfl rfl (by kernel_rfl) (by kernel_rfl) (by kernel_rfl) (by kernel_rfl) (fun _ _ _ h => h) hS (Or.inl ⟨rfl, fun w1 hw1 => by go_simp⟩) ?_
      simp only [Act.put, List.setIfInBounds_toArray, List.set_cons_zero, List.set_cons_succ]
      refine wpAnyK_takeTo 2 (some 39) (.pointer (some ⟨W.heap.size, 1, none⟩)) [] rfl rfl (by kernel_rfl) (by kernel_rfl) (by kernel_rfl) (by kernel_rfl) (fun _ _ _ h => h) hS (Or.inl ⟨rfl, fun w1 hw1 => by go_simp⟩) ?_
      simp only [Act.put, List.setIfInBounds_toArray, List.set_cons_zero, List.set_cons_succ]
      refine wpAnyK_takeTo 3 (some 40) (.slice a1 L.length c1) [] rfl rfl (by kernel_rfl) (by kernel_rfl) (by kernel_rfl) (by kernel_rfl) (fun _ _ _ h => h) hS (Or.inl ⟨rfl, fun w1 hw1 => by simp only [] at hw1; obtain ⟨u1, u2, u3⟩ := hw1; go_simp⟩) ?_
      simp only [Act.put, List.setIfInBounds_toArray, List.set_cons_zero, List.set_cons_succ]
      refine wpAnyK_takeTo 4 (some 41) (.int .i64 L.length) [] rfl rfl (by kernel_rfl) (by kernel_rfl) (by kernel_rfl) (by kernel_rfl) (fun _ _ _ h => h) hS (Or.inl ⟨rfl, fun w1 hw1 => by go_simp⟩) ?_
      simp only [Act.put, List.setIfInBounds_toArray, List.set_cons_zero, List.set_cons_succ]
      refine wpAnyK_one (i := 1) (by kernel_rfl) rfl rfl ?_
      refine wp_call_to (some 38) rfl 20 #[.pointer (some ⟨b, 0, none⟩)] (by go_simp) (pending_any b _ _ _ _ d1) ?_
      rintro e W6 ⟨rfl, hw6⟩
      obtain rfl := hw6
      refine ⟨_, rfl, ?_⟩
      simp only [Act.put, List.setIfInBounds_toArray, List.set_cons_zero, List.set_cons_succ]
      refine ⟨fun _ => hS, ?_⟩
      refine wpAnyK_takeTo 5 (some 42) (.bool true) [] rfl rfl (by kernel_rfl) (by kernel_rfl) (by kernel_rfl) (by kernel_rfl) (fun _ _ _ h => h) hS (Or.inl ⟨rfl, fun w1 hw1 => by go_simp⟩) ?_
      simp only [Act.put, List.setIfInBounds_toArray, List.set_cons_zero, List.set_cons_succ]
      refine wpAnyK_takeTo 6 (some 43) (.bool true) [] rfl rfl (by kernel_rfl) (by kernel_rfl) (by kernel_rfl) (by kernel_rfl) (fun _ _ _ h => h) hS (Or.inl ⟨rfl, fun w1 hw1 => by go_simp⟩) ?_
      simp only [Act.put, List.setIfInBounds_toArray, List.set_cons_zero, List.set_cons_succ]
      refine wpAnyK_takeTo 7 (some 44) (.pointer (some ⟨b, 0, none⟩)) [] rfl rfl (by kernel_rfl) (by kernel_rfl) (by kernel_rfl) (by kernel_rfl) (fun _ _ _ h => h) hS (Or.inl ⟨rfl, fun w1 hw1 => by go_simp⟩) ?_
      simp only [Act.put, List.setIfInBounds_toArray, List.set_cons_zero, List.set_cons_succ]
      refine wpAnyK_takeTo 8 (some 45) (.pointer (some ⟨b, 0, none⟩)) [] rfl rfl (by kernel_rfl) (by kernel_rfl) (by kernel_rfl) (by kernel_rfl) (fun _ _ _ h => h) hS (Or.inl ⟨rfl, fun w1 hw1 => by go_simp⟩) ?_
      simp only [Act.put, List.setIfInBounds_toArray, List.set_cons_zero, List.set_cons_succ]
      refine wpAnyK_takeTo 9 (some 46) (.pointer (some ⟨b, 0, none⟩)) [] rfl rfl (by kernel_rfl) (by kernel_rfl) (by kernel_rfl) (by kernel_rfl) (fun _ _ _ h => h) hS (Or.inl ⟨rfl, fun w1 hw1 => by go_simp⟩) ?_
      simp only [Act.put, List.setIfInBounds_toArray, List.set_cons_zero, List.set_cons_succ]
      refine wpAnyK_takeTo 11 (some 48) (.pointer (some ⟨W.heap.size, 0, none⟩)) [] rfl rfl (by kernel_rfl) (by kernel_rfl) (by kernel_rfl) (by kernel_rfl) (fun _ _ _ h => h) hS (Or.inl ⟨rfl, fun w1 hw1 => by go_simp⟩) ?_
      simp only [Act.put, List.setIfInBounds_toArray, List.set_cons_zero, List.set_cons_succ]
      refine wpAnyK_takeTo 12 (some 49) (.slice a S.length c) [] rfl rfl (by kernel_rfl) (by kernel_rfl) (by kernel_rfl) (by kernel_rfl) (fun _ _ _ h => h) hS (Or.inl ⟨rfl, fun w1 hw1 => by simp only [] at hw1; obtain ⟨u1, u2, u3⟩ := hw1; go_simp⟩) ?_
      simp only [Act.put, List.setIfInBounds_toArray, List.set_cons_zero, List.set_cons_succ]
      refine wpAnyK_takeTo 13 (some 50) (.int .i64 S.length) [] rfl rfl (by kernel_rfl) (by kernel_rfl) (by kernel_rfl) (by kernel_rfl) (fun _ _ _ h => h) hS (Or.inl ⟨rfl, fun w1 hw1 => by go_simp⟩) ?_
      simp only [Act.put, List.setIfInBounds_toArray, List.set_cons_zero, List.set_cons_succ]
      refine wpAnyK_one (i := 10) (by kernel_rfl) rfl rfl ?_
      refine wp_call_to (some 47) rfl 21 #[.pointer (some ⟨b, 0, none⟩)] (by go_simp) (sectors_any b _ _ _ _ d0) ?_
      rintro e W6 ⟨rfl, hw6⟩
      obtain rfl := hw6
      refine ⟨_, rfl, ?_⟩
      simp only [Act.put, List.setIfInBounds_toArray, List.set_cons_zero, List.set_cons_succ]
      refine ⟨fun _ => hS, ?_⟩
      refine wpAnyK_takeTo 14 (some 51) (.bool true) [] rfl rfl (by kernel_rfl) (by kernel_rfl) (by kernel_rfl) (by kernel_rfl) (fun _ _ _ h => h) hS (Or.inl ⟨rfl, fun w1 hw1 => by go_simp⟩) ?_
      simp only [Act.put, List.setIfInBounds_toArray, List.set_cons_zero, List.set_cons_succ]
      refine wpAnyK_takeTo 15 (some 52) (.bool true) [] rfl rfl (by kernel_rfl) (by kernel_rfl) (by kernel_rfl) (by kernel_rfl) (fun _ _ _ h => h) hS (Or.inl ⟨rfl, fun w1 hw1 => by go_simp⟩) ?_
      simp only [Act.put, List.setIfInBounds_toArray, List.set_cons_zero, List.set_cons_succ]
      refine wpAnyK_one (i := 16) (by kernel_rfl) rfl rfl ?_
      go_simp
      refine ⟨by kernel_rfl, ?_⟩
      go_wp2
      go_ret
      exact ⟨rfl, ((HF1.out.trans HFR.out).trans FD).mono (by simp)⟩

end Go.Proofs.Ytdbchicanlglhaa
