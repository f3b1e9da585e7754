/- The document's Cut. -/
import Derived.Test.YtaonhgabnbmcfaaNa
import Derived.OwnWalk
namespace Go.Proofs.Ytaonhgabnbmcfaa
open Go.RowKit Go.Shelf
set_option maxRecDepth 100000
set_option linter.unusedVariables false
set_option linter.unusedSimpArgs false

def others (key : ByteArray) (L : List It) : List It := L.filter (fun x => decide (x.key ≠ key))
theorem others_le (key : ByteArray) (L : List It) : (others key L).length ≤ L.length := List.length_filter_le _ _
def CutR (L : List It) (key : ByteArray) (w : World) (e : Ending) (w' : World) : Prop := ∃ (v : Value) (b : Bool), e = .returned (.tuple #[v, .bool b]) ∧ w'.ownsRow w.heap.size 46 2 v (others key L).length (encI (others key L)) ∧ b = decide ((others key L).length < L.length) ∧ Fr w w' (fun _ => False)
set_option maxHeartbeats 4000000 in
theorem refCut_any {w : World} {va : Value} {L : List It} (hA : PairsV w va L) (key : ByteArray) (hl : L.length ≤ 1099511627776) : Calls Try.prog 21 #[va, .string key] w (CutR L key w) := by
  obtain ⟨a, c, rfl, ia⟩ := hA
  obtain ⟨n, hn⟩ : ∃ n, L.length = n := ⟨_, rfl⟩
  obtain ⟨i0, hi, hz0, hz1, hz2⟩ := full46
  obtain ⟨B, hB⟩ : ∃ B, B = w.heap.size := ⟨_, rfl⟩
  obtain ⟨w0, hw0⟩ : ∃ w0, w0 = w.alloc (.cells #[] 46) := ⟨_, rfl⟩
  have f0 : Fr w w0 (fun _ => False) := by rw [hw0]; exact Fr.alloc w _ _
  have HR0 : Hid (w0.ownsRow B 46 2 (.slice (some ⟨B, 0, none⟩) 0 0) 0 []) := hide (by rw [hw0, hB]; exact World.ownsRow_made w #[] 0 (Nat.le_refl _) (by unfold maxLen; omega) rfl)
  have HN := hide hn
  have HB := hide hB
  have H0 := hide hw0
  have HF0 := hide f0
  rw [hn] at hl
  rw [hn]
  have HIA := hide ia
  clear ia hn hB hw0 f0
  go_enter Try.func21, Try.ntmps21
  go_wp2_with (rw [← H0.out, ← HB.out]; clear H0)
  have hr0 : w0.ownsRow B 46 2 (.slice (some ⟨B, 0, none⟩) 0 0) 0 (encI (others key (L.take 0))) := HR0.out
  go_loopw [7, 6] (fun vi v wr => ∃ i : Nat, i ≤ n ∧ vi = .int .i64 (i : Int) ∧ wr.ownsRow B 46 2 v (others key (L.take i)).length (encI (others key (L.take i))) ∧ Fr w wr (fun _ => False)) (fun vi _ _ => n - (intOf vi).toNat)
  case atStart => exact ⟨0, Nat.zero_le _, rfl, hr0, HF0.out⟩
  case round =>
    obtain ⟨i, hin, rfl, hrow, hf⟩ := hrel
    rename World => V
    obtain ⟨m, hm⟩ : ∃ m, m = (others key (L.take i)).length := ⟨_, rfl⟩
    rw [← hm] at hrow
    have hmn : m ≤ n := by
      rw [hm]; refine Nat.le_trans (others_le _ _) ?_
      rw [List.length_take, HN.out]; exact Nat.min_le_right _ _
    obtain ⟨va, vc, rfl⟩ := shape_n (ownsRow_base hrow (Nat.zero_le _))
    have HM := hide hm
    have HF := hide hf
    have HRW := hide hrow
    clear hm hf hrow hr0
    by_cases hlt : i < n
    · obtain ⟨⟨xk, xv⟩, hx⟩ : ∃ x, L[i]? = some x := ⟨_, List.getElem?_eq_getElem (by rw [HN.out]; exact hlt)⟩
      obtain ⟨g, rfl, p1, p2⟩ := HIA.out.fr HF.out i _ hx
      have HX := hide hx
      clear hx
      dsimp only at p1 p2
      by_cases k1 : xk = key
      · subst k1
        go_wp2_with fail
        go_roundw
        case rel => exact ⟨i + 1, by omega, by go_num, by
          have e : others xk (L.take (i + 1)) = others xk (L.take i) := by
            rw [List.take_add_one, HX.out]; simp [others]
          rw [e, ← HM.out]; exact HRW.out, HF.out⟩
        case measure => simp [intOf]; omega
      · have k2 : ¬ xk.toList = key.toList := fun e => k1 (bl_inj e)
        have k3 : (xk.toList == key.toList) = false := by simpa using k2
        have hvb : ∀ k, (Value.slice va m vc).ownBlock = some k → B ≤ k := fun k hk => by
          rcases HRW.out.2 with ⟨e1, _⟩ | ⟨g, cap, cr, e1, hg, _⟩
          · rw [e1] at hk; cases hk
          · rw [e1] at hk; cases hk; exact hg
        have HVB := hide hvb
        clear hvb
        have hBV : B ≤ V.heap.size := by have := HF.out.size; have := HB.out; omega
        go_wp2_with (at_builtin; refine wpList_append_own _ rfl _ _ 29 rfl B 46 i0 (Value.agg #[.string ⟨#[]⟩, .int .i64 0]) 2 24 Try.underlying29 hi hz0 hz1 hz2 rfl (by decide) _ _ _ rfl (HRW.out.alloc _) ⟨V.heap.size, 0, none⟩ 1 1 [.string xk, .int .i64 xv] rfl rfl (fun j u hu => by rw [Addr.add_mid, cell_of_row _ _ _ _ _ _ (heap_alloc_new V _)]; simpa using hu) (fun u hu => by simp at hu; rcases hu with rfl | rfl <;> rfl) (by unfold maxLen; omega) (by omega) (by simp; omega) ?_; intro v' w3 hown' hgrow _; obtain ⟨g', cap', rfl⟩ := ownsRow_succ hown'; have HOW := hide hown'; have HGR := hide hgrow; clear hown' hgrow)
        go_roundw
        case rel => exact ⟨i + 1, by omega, by go_num, by
          have e : others key (L.take (i + 1)) = others key (L.take i) ++ [⟨xk, xv⟩] := by
            rw [List.take_add_one, HX.out]; simp [others, k1]
          rw [e, List.length_append, ← HM.out, encI_append]; exact HOW.out, ((HF.out.two (Fr.alloc V _ _)).trans (Fr.grown HGR.out)).mono (fun k hk h => by
          rcases h with h | h
          · exact h
          · have := HVB.out k h
            have := HB.out
            omega)⟩
        case measure => simp [intOf]; omega
    · have hge : ¬ ((i : Int) < (n : Int)) := by omega
      have hi : L.take i = L := List.take_of_length_le (by rw [HN.out]; omega)
      have HI := hide hi
      clear hi
      go_wp2_with fail
      go_ret2
      refine ⟨_, _, rfl, ?_, ?_, HF.out⟩
      · rw [← HB.out]
        have h := HRW.out
        rw [HM.out, HI.out] at h
        rw [HM.out, HI.out]
        exact h
      · have h := HM.out
        rw [HI.out] at h
        rw [← h, HN.out]
end Go.Proofs.Ytaonhgabnbmcfaa
