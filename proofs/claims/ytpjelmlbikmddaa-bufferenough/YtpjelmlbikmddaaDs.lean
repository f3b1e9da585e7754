/- Sync: all pending writes are laid; how many they were. -/
import Derived.Test.YtpjelmlbikmddaaDq
namespace Go.Proofs.Ytpjelmlbikmddaa
open Go.RowKit
set_option maxRecDepth 100000

set_option maxRecDepth 100000 in
set_option maxHeartbeats 2000000 in
theorem sync_any {w : World} {b gs cs : Nat} {Cs : Array Value} {pv : Value} {S : List (List UInt8)} {L : List (Nat × List UInt8)} (h : DiskIs w b gs cs Cs pv S L) (hb : L.length ≤ 268435456) :
    Calls Try.prog 37 #[.pointer (some ⟨b, 0, none⟩)] w fun e w' => e = .returned (.int .i64 L.length) ∧
      ∃ Cs', DiskIs w' b gs cs Cs' (.slice none 0 0) (laysTo S L (fun _ => some 256) L.length) [] ∧ Fr w w' (fun k => k = gs ∨ k = b) := by
  obtain ⟨pa, pc, rfl, hpa⟩ := h.pend_form
  have c0 := h.cell0
  have c1 := h.cell1
  have HPA := hide hpa
  clear hpa
  go_enter Try.func37, Try.ntmps37
  go_wp2
  go_loopw [16] (fun i wr => ∃ k : Nat, k ≤ L.length ∧ i = .int .i64 k ∧ ∃ Cs', DiskIs wr b gs cs Cs' (.slice pa L.length pc) (laysTo S L (fun _ => some 256) k) L ∧ Fr w wr (fun k => k = gs)) (fun i _ => L.length - (intOf i).toNat)
  case atStart => exact ⟨0, Nat.zero_le _, rfl, Cs, h, Fr.refl _ _⟩
  case round =>
    obtain ⟨k, hkl, rfl, Cs', hD, hF⟩ := hrel
    by_cases hlt : k < L.length
    · obtain ⟨g, rfl⟩ := HPA.out k hlt
      obtain ⟨p, hp⟩ : ∃ p, L[k]? = some p := ⟨_, List.getElem?_eq_getElem hlt⟩
      have hpl := h.lenw p (List.mem_of_getElem? hp)
      have HR := hide (hD.write_cells k p hp)
      have HP := hide hp
      clear hp
      have HI := hide (by rw [length_wcells, hpl.1]; exact size70 : (Try.prog.info? 93).map (·.size) = some (wcells p.1 p.2).length)
      have HI2 := hide (by rw [List.size_toArray]; exact HI.out : (Try.prog.info? 93).map (·.size) = some (wcells p.1 p.2).toArray.size)
      have HL := hide (by simp only [List.size_toArray, length_wcells, length_blank, hpl.1] : (wcells 0 blank).toArray.size = (wcells p.1 p.2).toArray.size)
      have HD := hide hD
      have HF := hide hF
      clear hD hF
      go_wp2_with (first | (refine wpList_load_mid rfl 93 (.tmp 18) rfl g (k * 257) rfl (wcells p.1 p.2) _ HR.out Try.underlying93 rfl HI.out ?_) | (refine wpList_alloc70 rfl rfl ?_; intro W1 HW1; have HG := hide (latest_block HW1.out)) | (refine wpList_store_rowH rfl 93 (.tmp 5) (.tmp 19) rfl wr.heap.size (wcells p.1 p.2).toArray rfl rfl 93 _ HG.out HI2.out HL.out (all_oneCell_toArray (wcells_oneCell _ _)) ?_; intro W2 HW2; have HW3 := hide (crash_block HW1.out HW2.out)))
      have hW2 := HW3.out
      have F2 : Fr wr W2 (fun _ => False) := by rw [hW2]; exact Fr.alloc _ _ _
      have hR2 : W2.rangeAt wr.heap.size 0 (wcells p.1 p.2) := by
        intro j v hv
        rw [cell_of_row _ _ _ _ _ _ (latest_block hW2), Nat.zero_add]
        simpa using hv
      clear hW2
      have hF := HF.out
      have hD2' : DiskIs W2.drew b gs cs Cs' (.slice (some ⟨g, 0, none⟩) L.length pc) (laysTo S L (fun _ => some 256) k) L := HD.out.fr (F2.trans (Fr.drew W2 (fun _ => False))) (by simp) (by simp) (by simp)
      refine wp_region_K (fun i => !(i == 4)) (fun W => W.rangeAt wr.heap.size 0 (wcells p.1 p.2)) (by kernel_rfl) ?_
      have hS : W2.drew.rangeAt wr.heap.size 0 (wcells p.1 p.2) := by simpa using hR2
      refine wpAnyK_takeTo 0 (some 20) (.pointer (some ⟨b, 0, none⟩)) [1, 2, 4] rfl rfl (by kernel_rfl) (by kernel_rfl) (by kernel_rfl) (by kernel_rfl) (fun _ _ _ h => h) hS (Or.inl ⟨rfl, fun w1 hw1 => by go_simp⟩) ?_
      simp only [Act.put, List.setIfInBounds_toArray, List.set_cons_zero, List.set_cons_succ]
      refine wpAnyK_takeTo 1 (some 21) (.pointer (some ⟨b, 0, none⟩)) [2, 4] rfl rfl (by kernel_rfl) (by kernel_rfl) (by kernel_rfl) (by kernel_rfl) (fun _ _ _ h => h) hS (Or.inl ⟨rfl, fun w1 hw1 => by go_simp⟩) ?_
      simp only [Act.put, List.setIfInBounds_toArray, List.set_cons_zero, List.set_cons_succ]
      refine wpAnyK_takeTo 2 (some 22) (.pointer (some ⟨b, 0, none⟩)) [4] rfl rfl (by kernel_rfl) (by kernel_rfl) (by kernel_rfl) (by kernel_rfl) (fun _ _ _ h => h) hS (Or.inl ⟨rfl, fun w1 hw1 => by go_simp⟩) ?_
      simp only [Act.put, List.setIfInBounds_toArray, List.set_cons_zero, List.set_cons_succ]
      refine wpAnyK_takeTo 3 (some 23) (.agg (wcells p.1 p.2).toArray) [4] rfl rfl (by kernel_rfl) (by kernel_rfl) (by kernel_rfl) (by kernel_rfl) (fun _ _ _ h => h) hS (yieldsIf_load_mid rfl 93 (.tmp 5) rfl wr.heap.size 0 rfl (wcells p.1 p.2) _ (fun _ h => h) Try.underlying93 rfl HI.out) ?_
      simp only [Act.put, List.setIfInBounds_toArray, List.set_cons_zero, List.set_cons_succ]
      refine wpAnyK_one (i := 4) (by kernel_rfl) rfl rfl ?_
      refine wp_call_to (some 24) rfl 38 #[.pointer (some ⟨b, 0, none⟩), .agg (wcells p.1 p.2).toArray, .int .i64 256] (by go_simp) (lay_any hD2' p.1 (by rw [laysTo_length]; exact hpl.2) p.2 hpl.1 256 256 (by decide) (by omega)) ?_
      rintro e W3 ⟨rfl, Cs3, hD3, F3⟩
      refine ⟨_, rfl, fun h => by simp at h, ?_⟩
      simp only [Act.put, List.setIfInBounds_toArray, List.set_cons_zero, List.set_cons_succ]
      refine wpAnyK_done (by kernel_rfl) ?_ _
      go_wp2
      go_roundw
      case rel =>
        refine ⟨k + 1, by omega, by go_num, Cs3, ?_, ?_⟩
        · rw [laysTo_some S L _ k p HP.out 256 rfl]; exact hD3
        · exact (hF.trans ((F2.trans (Fr.drew W2 (fun _ => False))).trans F3)).mono (by rintro i _ (h2 | (h2 | h2) | h2); exact h2; exact h2.elim; exact h2.elim; exact h2)
      case measure => simp [intOf]; omega
    · have c1r := hD.cell1
      have fzr := hD.frozen 1
      have HD := hide hD
      have HF := hide hF
      clear hD hF
      go_wp2
      go_ret
      obtain rfl : k = L.length := by omega
      refine ⟨rfl, Cs', HD.out.drained, (HF.out.trans (Fr.setCell wr ⟨b, 1, none⟩ _))⟩

end Go.Proofs.Ytpjelmlbikmddaa
