/- Crash, where the torn write keeps all bytes. -/
import Derived.Test.YtpjelmlbikmddaaDn
namespace Go.Proofs.Ytpjelmlbikmddaa
open Go.RowKit
set_option maxRecDepth 100000

set_option maxRecDepth 100000 in
set_option maxHeartbeats 2000000 in
theorem crash_hi {w : World} {b gs cs : Nat} {Cs : Array Value} {pv : Value} {S : List (List UInt8)} {L : List (Nat × List UInt8)} (h : DiskIs w b gs cs Cs pv S L)
    (ka : Option Addr) (kl kc : Nat) (kb : List Bool) (hk : KeepIs w gs ka kl kb) (tear : Int) (at_ : Int) (hat : 256 < at_) (hb : L.length ≤ 268435456) :
    Calls Try.prog 20 #[.pointer (some ⟨b, 0, none⟩), .slice ka kl kc, .int .i64 tear, .int .i64 at_] w fun e w' => e = .returned (.tuple #[]) ∧
      ∃ Cs', DiskIs w' b gs cs Cs' (.slice none 0 0) (laysTo S L (crashN kb tear 256) L.length) [] ∧ Fr w w' (fun k => k = gs ∨ k = b) := by
  obtain ⟨pa, pc, rfl, hpa⟩ := h.pend_form
  have c0 := h.cell0
  have c1 := h.cell1
  have HK := hide hk
  have HPA := hide hpa
  clear hk hpa
  go_enter Try.func20, Try.ntmps20
  go_wp2
  go_loopw [18] (fun i wr => ∃ k : Nat, k ≤ L.length ∧ i = .int .i64 k ∧ ∃ Cs', DiskIs wr b gs cs Cs' (.slice pa L.length pc) (laysTo S L (crashN kb tear 256) k) L ∧ Fr w wr (fun k => k = gs)) (fun i _ => L.length - (intOf i).toNat)
  case atStart => exact ⟨0, Nat.zero_le _, rfl, Cs, h, Fr.refl _ _⟩
  case round =>
    obtain ⟨k, hkl, rfl, Cs', hD, hF⟩ := hrel
    by_cases hlt : k < L.length
    · obtain ⟨g, rfl⟩ := HPA.out k hlt
      obtain ⟨p, hp⟩ : ∃ p, L[k]? = some p := ⟨_, List.getElem?_eq_getElem hlt⟩
      have hpl := h.lenw p (List.mem_of_getElem? hp)
      have HR := hide (hD.write_cells k p hp)
      have HP := hide hp
      clear hp
      have HI := hide (by rw [length_wcells, hpl.1]; exact size70 : (Try.prog.info? 93).map (·.size) = some (wcells p.1 p.2).length)
      have HI2 := hide (by rw [List.size_toArray]; exact HI.out : (Try.prog.info? 93).map (·.size) = some (wcells p.1 p.2).toArray.size)
      have HL := hide (by simp only [List.size_toArray, length_wcells, length_blank, hpl.1] : (wcells 0 blank).toArray.size = (wcells p.1 p.2).toArray.size)
      have HD := hide hD
      clear hD
      have hkk := HK.out.fr hF
      have HF := hide hF
      have hbr : b < wr.heap.size := (Array.getElem?_eq_some_iff.1 HD.out.here).1
      have hgr : gs < wr.heap.size := (Array.getElem?_eq_some_iff.1 HD.out.secs).1
      have HGR := hide (HD.out.pend.lt g rfl)
      clear hF
      by_cases hti : (k : Int) = tear
      · have hq : ((k : Int) == tear) = true := by simp [hti]
        have HC := hide (by simp [crashN, hti] : crashN kb tear 256 k = some 256)
        clear hti hkk
        go_wp2_with (first | (refine wpList_load_mid rfl 93 (.tmp 21) rfl g (k * 257) rfl (wcells p.1 p.2) _ HR.out Try.underlying93 rfl HI.out ?_) | (refine wpList_alloc70 rfl rfl ?_; intro W1 HW1; have HG := hide (latest_block HW1.out)) | (refine wpList_store_rowH rfl 93 (.tmp 9) (.tmp 22) rfl wr.heap.size (wcells p.1 p.2).toArray rfl rfl 93 _ HG.out HI2.out HL.out (all_oneCell_toArray (wcells_oneCell _ _)) ?_; intro W2 HW2; have HW3 := hide (crash_block HW1.out HW2.out)))
        have hW2 := HW3.out
        have F2 : Fr wr W2 (fun _ => False) := by rw [hW2]; exact Fr.alloc _ _ _
        have hR2 : W2.rangeAt wr.heap.size 0 (wcells p.1 p.2) := by
          intro j v hv
          rw [cell_of_row _ _ _ _ _ _ (latest_block hW2), Nat.zero_add]
          simpa using hv
        clear hW2
        have hF := HF.out
        have hD2' : DiskIs W2.drew b gs cs Cs' (.slice (some ⟨g, 0, none⟩) L.length pc) (laysTo S L (crashN kb tear 256) k) L := HD.out.fr (F2.trans (Fr.drew W2 (fun _ => False))) (by simp) (by simp) (by simp)
        refine wp_region_K (fun i => !(i == 5)) (fun W => W.rangeAt wr.heap.size 0 (wcells p.1 p.2)) (by kernel_rfl) ?_
        have hS : W2.drew.rangeAt wr.heap.size 0 (wcells p.1 p.2) := by simpa using hR2
        refine wpAnyK_takeTo 0 (some 27) (.pointer (some ⟨b, 0, none⟩)) [1, 2, 5] rfl rfl (by kernel_rfl) (by kernel_rfl) (by kernel_rfl) (by kernel_rfl) (fun _ _ _ h => h) hS (Or.inl ⟨rfl, fun w1 hw1 => by go_simp⟩) ?_
        simp only [Act.put, List.setIfInBounds_toArray, List.set_cons_zero, List.set_cons_succ]
        refine wpAnyK_takeTo 1 (some 28) (.pointer (some ⟨b, 0, none⟩)) [2, 5] rfl rfl (by kernel_rfl) (by kernel_rfl) (by kernel_rfl) (by kernel_rfl) (fun _ _ _ h => h) hS (Or.inl ⟨rfl, fun w1 hw1 => by go_simp⟩) ?_
        simp only [Act.put, List.setIfInBounds_toArray, List.set_cons_zero, List.set_cons_succ]
        refine wpAnyK_takeTo 2 (some 29) (.pointer (some ⟨b, 0, none⟩)) [5] rfl rfl (by kernel_rfl) (by kernel_rfl) (by kernel_rfl) (by kernel_rfl) (fun _ _ _ h => h) hS (Or.inl ⟨rfl, fun w1 hw1 => by go_simp⟩) ?_
        simp only [Act.put, List.setIfInBounds_toArray, List.set_cons_zero, List.set_cons_succ]
        refine wpAnyK_takeTo 3 (some 30) (.agg (wcells p.1 p.2).toArray) [5] rfl rfl (by kernel_rfl) (by kernel_rfl) (by kernel_rfl) (by kernel_rfl) (fun _ _ _ h => h) hS (yieldsIf_load_mid rfl 93 (.tmp 9) rfl wr.heap.size 0 rfl (wcells p.1 p.2) _ (fun _ h => h) Try.underlying93 rfl HI.out) ?_
        simp only [Act.put, List.setIfInBounds_toArray, List.set_cons_zero, List.set_cons_succ]
        refine wpAnyK_takeTo 4 (some 31) (.int .i64 256) [5] rfl rfl (by kernel_rfl) (by kernel_rfl) (by kernel_rfl) (by kernel_rfl) (fun _ _ _ h => h) hS (Or.inl ⟨rfl, fun w1 hw1 => by go_simp⟩) ?_
        simp only [Act.put, List.setIfInBounds_toArray, List.set_cons_zero, List.set_cons_succ]
        refine wpAnyK_one (i := 5) (by kernel_rfl) rfl rfl ?_
        refine wp_call_to (some 32) rfl 38 #[.pointer (some ⟨b, 0, none⟩), .agg (wcells p.1 p.2).toArray, .int .i64 256] (by go_simp) (lay_any hD2' p.1 (by rw [laysTo_length]; exact hpl.2) p.2 hpl.1 256 256 (by decide) (by omega)) ?_
        rintro e W3 ⟨rfl, Cs3, hD3, F3⟩
        refine ⟨_, rfl, fun h => by simp at h, ?_⟩
        simp only [Act.put, List.setIfInBounds_toArray, List.set_cons_zero, List.set_cons_succ]
        refine wpAnyK_done (by kernel_rfl) ?_ _
        go_wp2
        go_roundw
        case rel =>
          refine ⟨k + 1, by omega, by go_num, Cs3, ?_, ?_⟩
          · rw [laysTo_some S L _ k p HP.out _ HC.out]; exact hD3
          · exact (hF.trans ((F2.trans (Fr.drew W2 (fun _ => False))).trans F3)).mono (by rintro i _ (h2 | (h2 | h2) | h2); exact h2; exact h2.elim; exact h2.elim; exact h2)
        case measure => simp [intOf]; omega
      · have hq : ((k : Int) == tear) = false := by simp [hti]
        by_cases hkb : kb.getD k false = true
        · have HC := hide (by simp only [crashN, hti, hkb, if_true, if_false] : crashN kb tear 256 k = some 256)
          have hkl2 : k < kl := by
            rw [← HK.out.1]
            rcases Nat.lt_or_ge k kb.length with h2 | h2
            · exact h2
            · simp [List.getD_eq_getElem?_getD, List.getElem?_eq_none h2] at hkb
          have hkl3 : (k : Int) < (kl : Int) := by omega
          obtain ⟨kg, koff, rfl, hkg, hkc⟩ := hkk.2.resolve_left (by omega)
          have hcell : wr.cell? ⟨kg, koff + k, none⟩ = some (.bool true) := hkc k true (by
            rw [List.getD_eq_getElem?_getD] at hkb
            cases e : kb[k]? with
            | none => rw [e] at hkb; cases hkb
            | some x => rw [e] at hkb; exact congrArg some hkb)
          have hkgr : kg < wr.heap.size := World.block_lt_of_cell? wr _ hcell
          clear hkb hkc hti hkk
          go_wp2_with (first | (refine wpList_load_mid rfl 93 (.tmp 21) rfl g (k * 257) rfl (wcells p.1 p.2) _ HR.out Try.underlying93 rfl HI.out ?_) | (refine wpList_alloc70 rfl rfl ?_; intro W1 HW1; have HG := hide (latest_block HW1.out)) | (refine wpList_store_rowH rfl 93 (.tmp 9) (.tmp 22) rfl wr.heap.size (wcells p.1 p.2).toArray rfl rfl 93 _ HG.out HI2.out HL.out (all_oneCell_toArray (wcells_oneCell _ _)) ?_; intro W2 HW2; have HW3 := hide (crash_block HW1.out HW2.out); have hcell2 : W2.cell? ⟨kg, koff + k, none⟩ = some (.bool true) := (by rw [World.cell?_of_block (w := wr) (crash_fr HW3.out kg hkgr)]; exact hcell)))
          have hW2 := HW3.out
          have F2 : Fr wr W2 (fun _ => False) := by rw [hW2]; exact Fr.alloc _ _ _
          have hR2 : W2.rangeAt wr.heap.size 0 (wcells p.1 p.2) := by
            intro j v hv
            rw [cell_of_row _ _ _ _ _ _ (latest_block hW2), Nat.zero_add]
            simpa using hv
          clear hW2
          have hF := HF.out
          have hD2' : DiskIs W2.drew b gs cs Cs' (.slice (some ⟨g, 0, none⟩) L.length pc) (laysTo S L (crashN kb tear 256) k) L := HD.out.fr (F2.trans (Fr.drew W2 (fun _ => False))) (by simp) (by simp) (by simp)
          refine wp_region_K (fun i => !(i == 4)) (fun W => W.rangeAt wr.heap.size 0 (wcells p.1 p.2)) (by kernel_rfl) ?_
          have hS : W2.drew.rangeAt wr.heap.size 0 (wcells p.1 p.2) := by simpa using hR2
          refine wpAnyK_takeTo 0 (some 44) (.pointer (some ⟨b, 0, none⟩)) [1, 2, 4] rfl rfl (by kernel_rfl) (by kernel_rfl) (by kernel_rfl) (by kernel_rfl) (fun _ _ _ h => h) hS (Or.inl ⟨rfl, fun w1 hw1 => by go_simp⟩) ?_
          simp only [Act.put, List.setIfInBounds_toArray, List.set_cons_zero, List.set_cons_succ]
          refine wpAnyK_takeTo 1 (some 45) (.pointer (some ⟨b, 0, none⟩)) [2, 4] rfl rfl (by kernel_rfl) (by kernel_rfl) (by kernel_rfl) (by kernel_rfl) (fun _ _ _ h => h) hS (Or.inl ⟨rfl, fun w1 hw1 => by go_simp⟩) ?_
          simp only [Act.put, List.setIfInBounds_toArray, List.set_cons_zero, List.set_cons_succ]
          refine wpAnyK_takeTo 2 (some 46) (.pointer (some ⟨b, 0, none⟩)) [4] rfl rfl (by kernel_rfl) (by kernel_rfl) (by kernel_rfl) (by kernel_rfl) (fun _ _ _ h => h) hS (Or.inl ⟨rfl, fun w1 hw1 => by go_simp⟩) ?_
          simp only [Act.put, List.setIfInBounds_toArray, List.set_cons_zero, List.set_cons_succ]
          refine wpAnyK_takeTo 3 (some 47) (.agg (wcells p.1 p.2).toArray) [4] rfl rfl (by kernel_rfl) (by kernel_rfl) (by kernel_rfl) (by kernel_rfl) (fun _ _ _ h => h) hS (yieldsIf_load_mid rfl 93 (.tmp 9) rfl wr.heap.size 0 rfl (wcells p.1 p.2) _ (fun _ h => h) Try.underlying93 rfl HI.out) ?_
          simp only [Act.put, List.setIfInBounds_toArray, List.set_cons_zero, List.set_cons_succ]
          refine wpAnyK_one (i := 4) (by kernel_rfl) rfl rfl ?_
          refine wp_call_to (some 48) rfl 38 #[.pointer (some ⟨b, 0, none⟩), .agg (wcells p.1 p.2).toArray, .int .i64 256] (by go_simp) (lay_any hD2' p.1 (by rw [laysTo_length]; exact hpl.2) p.2 hpl.1 256 256 (by decide) (by omega)) ?_
          rintro e W3 ⟨rfl, Cs3, hD3, F3⟩
          refine ⟨_, rfl, fun h => by simp at h, ?_⟩
          simp only [Act.put, List.setIfInBounds_toArray, List.set_cons_zero, List.set_cons_succ]
          refine wpAnyK_done (by kernel_rfl) ?_ _
          go_wp2
          go_roundw
          case rel =>
            refine ⟨k + 1, by omega, by go_num, Cs3, ?_, ?_⟩
            · rw [laysTo_some S L _ k p HP.out _ HC.out]; exact hD3
            · exact (hF.trans ((F2.trans (Fr.drew W2 (fun _ => False))).trans F3)).mono (by rintro i _ (h2 | (h2 | h2) | h2); exact h2; exact h2.elim; exact h2.elim; exact h2)
          case measure => simp [intOf]; omega
        · have HC := hide (by simp only [crashN, hti, hkb, if_false]; simp : crashN kb tear 256 k = none)
          by_cases hkl2 : k < kl
          · have hkl3 : (k : Int) < (kl : Int) := by omega
            obtain ⟨kg, koff, rfl, hkg, hkc⟩ := hkk.2.resolve_left (by omega)
            have hcell : wr.cell? ⟨kg, koff + k, none⟩ = some (.bool false) := hkc k false (by
              rw [List.getD_eq_getElem?_getD] at hkb
              cases e : kb[k]? with
              | none => exact absurd (List.getElem?_eq_none_iff.1 e) (by rw [HK.out.1]; omega)
              | some x => rw [e] at hkb; simpa using hkb)
            have hkgr : kg < wr.heap.size := World.block_lt_of_cell? wr _ hcell
            clear hkb hkc hti hkk
            go_wp2_with (first | (refine wpList_load_mid rfl 93 (.tmp 21) rfl g (k * 257) rfl (wcells p.1 p.2) _ HR.out Try.underlying93 rfl HI.out ?_) | (refine wpList_alloc70 rfl rfl ?_; intro W1 HW1; have HG := hide (latest_block HW1.out)) | (refine wpList_store_rowH rfl 93 (.tmp 9) (.tmp 22) rfl wr.heap.size (wcells p.1 p.2).toArray rfl rfl 93 _ HG.out HI2.out HL.out (all_oneCell_toArray (wcells_oneCell _ _)) ?_; intro W2 HW2; have HW3 := hide (crash_block HW1.out HW2.out); have hcell2 : W2.cell? ⟨kg, koff + k, none⟩ = some (.bool false) := (by rw [World.cell?_of_block (w := wr) (crash_fr HW3.out kg hkgr)]; exact hcell)))
            go_roundw
            case rel =>
              refine ⟨k + 1, by omega, by go_num, Cs', ?_, ?_⟩
              · rw [laysTo_none S L _ k HC.out]; exact HD.out.fr (X := fun _ => False) (by rw [HW3.out]; exact Fr.alloc _ _ _) (by simp) (by simp) (by simp)
              · exact (HF.out.trans (by rw [HW3.out]; exact Fr.alloc _ _ (fun _ => False))).mono (by rintro i _ (h2 | h2); exact h2; exact h2.elim)
            case measure => simp [intOf]; omega
          · have hkl3 : decide ((k : Int) < (kl : Int)) = false := by simp; omega
            clear hkb hti hkk
            go_wp2_with (first | (refine wpList_load_mid rfl 93 (.tmp 21) rfl g (k * 257) rfl (wcells p.1 p.2) _ HR.out Try.underlying93 rfl HI.out ?_) | (refine wpList_alloc70 rfl rfl ?_; intro W1 HW1; have HG := hide (latest_block HW1.out)) | (refine wpList_store_rowH rfl 93 (.tmp 9) (.tmp 22) rfl wr.heap.size (wcells p.1 p.2).toArray rfl rfl 93 _ HG.out HI2.out HL.out (all_oneCell_toArray (wcells_oneCell _ _)) ?_; intro W2 HW2; have HW3 := hide (crash_block HW1.out HW2.out)))
            go_roundw
            case rel =>
              refine ⟨k + 1, by omega, by go_num, Cs', ?_, ?_⟩
              · rw [laysTo_none S L _ k HC.out]; exact HD.out.fr (X := fun _ => False) (by rw [HW3.out]; exact Fr.alloc _ _ _) (by simp) (by simp) (by simp)
              · exact (HF.out.trans (by rw [HW3.out]; exact Fr.alloc _ _ (fun _ => False))).mono (by rintro i _ (h2 | h2); exact h2; exact h2.elim)
            case measure => simp [intOf]; omega
    · have c1r := hD.cell1
      have fzr := hD.frozen 1
      have HD := hide hD
      have HF := hide hF
      clear hD hF
      go_wp2
      go_end0
      obtain rfl : k = L.length := by omega
      refine ⟨rfl, Cs', HD.out.drained, (HF.out.trans (Fr.setCell wr ⟨b, 1, none⟩ _))⟩

end Go.Proofs.Ytpjelmlbikmddaa
