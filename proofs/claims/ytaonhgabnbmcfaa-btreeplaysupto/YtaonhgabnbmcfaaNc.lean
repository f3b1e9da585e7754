/- The document's Range. -/
import Derived.Test.YtaonhgabnbmcfaaNb
import Derived.OwnWalk
namespace Go.Proofs.Ytaonhgabnbmcfaa
open Go.RowKit Go.Shelf
set_option maxRecDepth 100000
set_option linter.unusedVariables false
set_option linter.unusedSimpArgs false

def RngR (L : List It) (fr to : ByteArray) (w : World) (e : Ending) (w' : World) : Prop := ∃ (v : Value), e = .returned v ∧ w'.ownsRow w.heap.size 46 2 v (rng fr to L).length (encI (rng fr to L)) ∧ Fr w w' (fun _ => False)
set_option maxHeartbeats 4000000 in
theorem refRange_any {w : World} {va : Value} {L : List It} (hA : PairsV w va L) (fr to : ByteArray) (hl : L.length ≤ 1099511627776) : Calls Try.prog 23 #[va, .string fr, .string to] w (RngR L fr to w) := by
  obtain ⟨a, c, rfl, ia⟩ := hA
  obtain ⟨n, hn⟩ : ∃ n, L.length = n := ⟨_, rfl⟩
  obtain ⟨i0, hi, hz0, hz1, hz2⟩ := full46
  obtain ⟨B, hB⟩ : ∃ B, B = w.heap.size := ⟨_, rfl⟩
  have HN := hide hn
  have HB := hide hB
  rw [hn] at hl
  rw [hn]
  have HIA := hide ia
  clear ia hn hB
  go_enter Try.func23, Try.ntmps23
  go_wp2
  go_loopw [8, 7] (fun vi v wr => ∃ i : Nat, i ≤ n ∧ vi = .int .i64 (i : Int) ∧ wr.ownsRow B 46 2 v (rng fr to (L.take i)).length (encI (rng fr to (L.take i))) ∧ Fr w wr (fun _ => False)) (fun vi _ _ => n - (intOf vi).toNat)
  case atStart => exact ⟨0, Nat.zero_le _, rfl, World.ownsRow_nil _ _ _ _, Fr.refl _ _⟩
  case round =>
    obtain ⟨i, hin, rfl, hrow, hf⟩ := hrel
    rename World => V
    obtain ⟨m, hm⟩ : ∃ m, m = (rng fr to (L.take i)).length := ⟨_, rfl⟩
    rw [← hm] at hrow
    have hmn : m ≤ n := by
      rw [hm]; refine Nat.le_trans (rng_le _ _ _) ?_
      rw [List.length_take, HN.out]; exact Nat.min_le_right _ _
    obtain ⟨va, vc, rfl⟩ := shape_n (ownsRow_base hrow (Nat.zero_le _))
    have hvb : ∀ k, (Value.slice va m vc).ownBlock = some k → B ≤ k := fun k hk => by
      rcases hrow.2 with ⟨e1, _⟩ | ⟨g, cap, cr, e1, hg, _⟩
      · rw [e1] at hk; cases hk
      · rw [e1] at hk; cases hk; exact hg
    have HM := hide hm
    have HF := hide hf
    have HRW := hide hrow
    have HVB := hide hvb
    have hBV : B ≤ V.heap.size := by have := hf.size; have := HB.out; omega
    clear hm hf hrow hvb
    by_cases hlt : i < n
    · obtain ⟨⟨xk, xv⟩, hx⟩ : ∃ x, L[i]? = some x := ⟨_, List.getElem?_eq_getElem (by rw [HN.out]; exact hlt)⟩
      obtain ⟨g, rfl, p1, p2⟩ := HIA.out.fr HF.out i _ hx
      have HX := hide hx
      clear hx
      dsimp only at p1 p2
      have b1 : Op.bytesLess xk.toList fr.toList = decide (kc xk fr < 0) := by rw [ByteArray.toList_eq, ByteArray.toList_eq]; exact bytesLess_kc xk fr
      have b2 : Op.bytesLess xk.toList to.toList = decide (kc xk to < 0) := by rw [ByteArray.toList_eq, ByteArray.toList_eq]; exact bytesLess_kc xk to
      by_cases c1 : kc xk fr < 0
      · have b1 : Op.bytesLess xk.toList fr.toList = true := by rw [b1]; exact decide_eq_true c1
        have c1' : ¬ 0 ≤ kc xk fr := by omega
        clear b2
        go_wp2_with fail
        go_roundw
        case rel => exact ⟨i + 1, by omega, by go_num, by
          have e : rng fr to (L.take (i + 1)) = rng fr to (L.take i) := by
            rw [List.take_add_one, HX.out]; simp [rng, upto, c1']
          rw [e, ← HM.out]; exact HRW.out, HF.out⟩
        case measure => simp [intOf]; omega
      · have b1 : Op.bytesLess xk.toList fr.toList = false := by rw [b1]; exact decide_eq_false c1
        have c1' : 0 ≤ kc xk fr := by omega
        by_cases c2 : to.toList = []
        · have c3 : to.data.toList = [] := by rw [← ByteArray.toList_eq]; exact c2
          clear b2
          go_wp2_with (at_builtin; refine wpList_append_own _ rfl _ _ 29 rfl B 46 i0 (Value.agg #[.string ⟨#[]⟩, .int .i64 0]) 2 24 Try.underlying29 hi hz0 hz1 hz2 rfl (by decide) _ _ _ rfl (HRW.out.alloc _) ⟨V.heap.size, 0, none⟩ 1 1 [.string xk, .int .i64 xv] rfl rfl (fun j u hu => by rw [Addr.add_mid, cell_of_row _ _ _ _ _ _ (heap_alloc_new V _)]; simpa using hu) (fun u hu => by simp at hu; rcases hu with rfl | rfl <;> rfl) (by unfold maxLen; omega) (by omega) (by simp; omega) ?_; intro v' w3 hown' hgrow _; obtain ⟨g', cap', rfl⟩ := ownsRow_succ hown'; have HOW := hide hown'; have HGR := hide hgrow; clear hown' hgrow)
          go_roundw
          case rel => exact ⟨i + 1, by omega, by go_num, by
            have e : rng fr to (L.take (i + 1)) = rng fr to (L.take i) ++ [⟨xk, xv⟩] := by
              rw [List.take_add_one, HX.out]; simp [rng, upto, c1', c3]
            rw [e, List.length_append, ← HM.out, encI_append]; exact HOW.out, ((HF.out.two (Fr.alloc V _ _)).trans (Fr.grown HGR.out)).mono (fun k hk h => by
              rcases h with h | h
              · exact h
              · have := HVB.out k h
                have := HB.out
                omega)⟩
          case measure => simp [intOf]; omega
        · have c3 : ¬ to.data.toList = [] := by rw [← ByteArray.toList_eq]; exact c2
          have c4 : (to.toList == []) = false := by simpa using c2
          by_cases c5 : kc xk to < 0
          · have b2 : Op.bytesLess xk.toList to.toList = true := by rw [b2]; exact decide_eq_true c5
            go_wp2_with (at_builtin; refine wpList_append_own _ rfl _ _ 29 rfl B 46 i0 (Value.agg #[.string ⟨#[]⟩, .int .i64 0]) 2 24 Try.underlying29 hi hz0 hz1 hz2 rfl (by decide) _ _ _ rfl (HRW.out.alloc _) ⟨V.heap.size, 0, none⟩ 1 1 [.string xk, .int .i64 xv] rfl rfl (fun j u hu => by rw [Addr.add_mid, cell_of_row _ _ _ _ _ _ (heap_alloc_new V _)]; simpa using hu) (fun u hu => by simp at hu; rcases hu with rfl | rfl <;> rfl) (by unfold maxLen; omega) (by omega) (by simp; omega) ?_; intro v' w3 hown' hgrow _; obtain ⟨g', cap', rfl⟩ := ownsRow_succ hown'; have HOW := hide hown'; have HGR := hide hgrow; clear hown' hgrow)
            go_roundw
            case rel => exact ⟨i + 1, by omega, by go_num, by
              have e : rng fr to (L.take (i + 1)) = rng fr to (L.take i) ++ [⟨xk, xv⟩] := by
                rw [List.take_add_one, HX.out]; simp [rng, upto, c1', c3, c5]
              rw [e, List.length_append, ← HM.out, encI_append]; exact HOW.out, ((HF.out.two (Fr.alloc V _ _)).trans (Fr.grown HGR.out)).mono (fun k hk h => by
                rcases h with h | h
                · exact h
                · have := HVB.out k h
                  have := HB.out
                  omega)⟩
            case measure => simp [intOf]; omega
          · have b2 : Op.bytesLess xk.toList to.toList = false := by rw [b2]; exact decide_eq_false c5
            go_wp2_with fail
            go_roundw
            case rel => exact ⟨i + 1, by omega, by go_num, by
              have e : rng fr to (L.take (i + 1)) = rng fr to (L.take i) := by
                rw [List.take_add_one, HX.out]; simp [rng, upto, c1', c3, c5]; exact ⟨fun e => c3 (by rw [e]), by omega⟩
              rw [e, ← HM.out]; exact HRW.out, HF.out⟩
            case measure => simp [intOf]; omega
    · have hge : ¬ ((i : Int) < (n : Int)) := by omega
      have hi : L.take i = L := List.take_of_length_le (by rw [HN.out]; omega)
      have HI := hide hi
      clear hi
      go_wp2_with fail
      go_ret
      refine ⟨_, rfl, ?_, HF.out⟩
      rw [← HB.out]
      have h := HRW.out
      rw [HM.out, HI.out] at h
      rw [HM.out, HI.out]
      exact h
end Go.Proofs.Ytaonhgabnbmcfaa
