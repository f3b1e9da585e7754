/- Fork: another disk with the same sectors and writes. -/
import Derived.Test.YtachppnakmdjhaaDw
namespace Go.Proofs.Ytachppnakmdjhaa
open Go.RowKit

theorem enc_flat_oneCell (l : List UInt8) : ∀ u ∈ enc l, u.oneCell' = true := enc_oneCell l
theorem encW_oneCell (L : List (Nat × List UInt8)) : ∀ u ∈ encW L, u.oneCell' = true := by
  intro u hu
  simp only [encW, List.mem_flatten, List.mem_map] at hu
  obtain ⟨l, ⟨p, _, rfl⟩, hu⟩ := hu
  exact wcells_oneCell _ _ u hu

theorem DiskIs.secs_own {w : World} {b gs cs : Nat} {Cs : Array Value} {pv : Value} {S : List (List UInt8)} {L : List (Nat × List UInt8)} (h : DiskIs w b gs cs Cs pv S L) (hl : (enc S.flatten).length = S.length * 256) :
    w.ownsRow 0 108 256 (.slice (some ⟨gs, 0, none⟩) S.length cs) S.length (enc S.flatten) :=
  ⟨hl, .inr ⟨gs, cs, Cs, rfl, Nat.zero_le _, h.secs, h.le, h.max, h.size, h.take⟩⟩

theorem flat_len (S : List (List UInt8)) (hl : ∀ s ∈ S, s.length = 256) : (enc S.flatten).length = S.length * 256 := by
  rw [length_enc]
  induction S with
  | nil => simp
  | cons q S ih =>
    rw [List.flatten_cons, List.length_append, ih (fun s hs => hl s (List.mem_cons_of_mem _ hs)), hl q List.mem_cons_self, List.length_cons]
    omega

theorem clone27_any {w : World} {pv : Value} {n : Nat} {xs : List Value} (hown : w.ownsRow 0 110 257 pv n xs) (h1 : ∀ u ∈ xs, u.oneCell' = true) (hn : n ≤ 268435456) :
    Calls Try.prog 55 #[pv] w fun e w' => ∃ a c, e = .returned (.slice a n c) ∧ w'.ownsRow 0 110 257 (.slice a n c) n xs ∧ (∀ k, (Value.slice a n c).ownBlock = some k → w.heap.size ≤ k) ∧ Fr w w' (fun _ => False) := by
  rcases hown.2 with ⟨rfl, rfl⟩ | ⟨g, cap, cur, rfl, r⟩
  · refine (clone27_nil w).mono ?_
    rintro e w' ⟨rfl, rfl⟩
    exact ⟨none, 0, rfl, hown, by simp [Value.ownBlock], Fr.refl _ _⟩
  · refine (clone27 hown h1 hn).mono ?_
    rintro e w' ⟨g', c', rfl, hg, ho, hf⟩
    refine ⟨_, c', rfl, ho, ?_, hf⟩
    intro k hk
    simp [Value.ownBlock] at hk
    omega

set_option maxRecDepth 100000 in
set_option maxHeartbeats 1000000 in
theorem fork_any {w : World} {b gs cs : Nat} {Cs : Array Value} {pv : Value} {S : List (List UInt8)} {L : List (Nat × List UInt8)} (h : DiskIs w b gs cs Cs pv S L) (hS4 : S.length ≤ 4096) (hb : L.length ≤ 268435456) :
    Calls Try.prog 28 #[.pointer (some ⟨b, 0, none⟩)] w fun e w' => ∃ b' gs' cs' Cs' pv', e = .returned (.pointer (some ⟨b', 0, none⟩)) ∧ DiskIs w' b' gs' cs' Cs' pv' S L ∧
      w.heap.size ≤ b' ∧ w.heap.size ≤ gs' ∧ (∀ k, pv'.ownBlock = some k → w.heap.size ≤ k) ∧ Fr w w' (fun _ => False) := by
  have c0 := h.cell0
  have c1 := h.cell1
  go_enter Try.func28, Try.ntmps28
  go_wp2
  refine wp_region_K (fun _ => true) (fun w' => w'.cell? ⟨b, 0, none⟩ = some (.slice (some ⟨gs, 0, none⟩) S.length cs) ∧ w'.cell? ⟨b, 1, none⟩ = some pv) (by kernel_rfl) ?_
  have hS : w.drew.cell? ⟨b, 0, none⟩ = some (.slice (some ⟨gs, 0, none⟩) S.length cs) ∧ w.drew.cell? ⟨b, 1, none⟩ = some pv := ⟨by simpa using c0, by simpa using c1⟩
  refine wpAnyK_takeTo 0 (some 3) (.pointer (some ⟨b, 0, none⟩)) [] rfl rfl (by kernel_rfl) (by kernel_rfl) (by kernel_rfl) (by kernel_rfl) (fun _ _ _ h => h) hS (Or.inl ⟨rfl, fun w1 hw1 => by go_simp⟩) ?_
  simp only [Act.put, List.setIfInBounds_toArray, List.set_cons_zero, List.set_cons_succ]
  refine wpAnyK_takeTo 1 (some 4) (.pointer (some ⟨b, 0, none⟩)) [] rfl rfl (by kernel_rfl) (by kernel_rfl) (by kernel_rfl) (by kernel_rfl) (fun _ _ _ h => h) hS (Or.inl ⟨rfl, fun w1 hw1 => by go_simp⟩) ?_
  simp only [Act.put, List.setIfInBounds_toArray, List.set_cons_zero, List.set_cons_succ]
  refine wpAnyK_takeTo 2 (some 5) (.pointer (some ⟨b, 0, none⟩)) [] rfl rfl (by kernel_rfl) (by kernel_rfl) (by kernel_rfl) (by kernel_rfl) (fun _ _ _ h => h) hS (Or.inl ⟨rfl, fun w1 hw1 => by go_simp⟩) ?_
  simp only [Act.put, List.setIfInBounds_toArray, List.set_cons_zero, List.set_cons_succ]
  refine wpAnyK_takeTo 3 (some 6) (.pointer (some ⟨b, 0, none⟩)) [] rfl rfl (by kernel_rfl) (by kernel_rfl) (by kernel_rfl) (by kernel_rfl) (fun _ _ _ h => h) hS (Or.inl ⟨rfl, fun w1 hw1 => by go_simp⟩) ?_
  simp only [Act.put, List.setIfInBounds_toArray, List.set_cons_zero, List.set_cons_succ]
  refine wpAnyK_takeTo 4 (some 7) (.slice (some ⟨gs, 0, none⟩) S.length cs) [] rfl rfl (by kernel_rfl) (by kernel_rfl) (by kernel_rfl) (by kernel_rfl) (fun _ _ _ h => h) hS (Or.inl ⟨rfl, fun w1 hw1 => by simp only [] at hw1; go_simp⟩) ?_
  simp only [Act.put, List.setIfInBounds_toArray, List.set_cons_zero, List.set_cons_succ]
  refine wpAnyK_takeTo 7 (some 10) (.pointer (some ⟨b, 0, none⟩)) [] rfl rfl (by kernel_rfl) (by kernel_rfl) (by kernel_rfl) (by kernel_rfl) (fun _ _ _ h => h) hS (Or.inl ⟨rfl, fun w1 hw1 => by go_simp⟩) ?_
  simp only [Act.put, List.setIfInBounds_toArray, List.set_cons_zero, List.set_cons_succ]
  refine wpAnyK_takeTo 8 (some 11) (.pointer (some ⟨b, 0, none⟩)) [] rfl rfl (by kernel_rfl) (by kernel_rfl) (by kernel_rfl) (by kernel_rfl) (fun _ _ _ h => h) hS (Or.inl ⟨rfl, fun w1 hw1 => by go_simp⟩) ?_
  simp only [Act.put, List.setIfInBounds_toArray, List.set_cons_zero, List.set_cons_succ]
  refine wpAnyK_takeTo 9 (some 12) (.pointer (some ⟨b, 1, none⟩)) [] rfl rfl (by kernel_rfl) (by kernel_rfl) (by kernel_rfl) (by kernel_rfl) (fun _ _ _ h => h) hS (Or.inl ⟨rfl, fun w1 hw1 => by go_simp⟩) ?_
  simp only [Act.put, List.setIfInBounds_toArray, List.set_cons_zero, List.set_cons_succ]
  refine wpAnyK_takeTo 10 (some 13) (pv) [] rfl rfl (by kernel_rfl) (by kernel_rfl) (by kernel_rfl) (by kernel_rfl) (fun _ _ _ h => h) hS (Or.inl ⟨rfl, fun w1 hw1 => by simp only [] at hw1; go_simp⟩) ?_
  simp only [Act.put, List.setIfInBounds_toArray, List.set_cons_zero, List.set_cons_succ]
  refine wpAnyK_one (i := 5) (by kernel_rfl) rfl rfl ?_
  refine wp_call_to (some 8) rfl 54 #[.slice (some ⟨gs, 0, none⟩) S.length cs] (by go_simp) (clone26 (ownsRow_fr (h.secs_own (flat_len S h.lens)) (Fr.drew w (fun _ => False)) (by simp)) (enc_oneCell _) hS4) ?_
  rintro e w1 ⟨g1, c1', rfl, hg1, ho1, F1⟩
  refine ⟨_, rfl, ?_⟩
  simp only [Act.put, List.setIfInBounds_toArray, List.set_cons_zero, List.set_cons_succ]
  have F01 : Fr w w1 (fun _ => False) := ((Fr.drew w (fun _ => False)).trans F1).mono (by simp)
  have hS1 : w1.cell? ⟨b, 0, none⟩ = some (.slice (some ⟨gs, 0, none⟩) S.length cs) ∧ w1.cell? ⟨b, 1, none⟩ = some pv :=
    ⟨by rw [World.cell?_of_block (w := w) (F01.block b (World.block_lt_of_cell? w _ c0) id)]; exact c0, by rw [World.cell?_of_block (w := w) (F01.block b (World.block_lt_of_cell? w _ c1) id)]; exact c1⟩
  refine ⟨fun _ => hS1, ?_⟩
  refine wpAnyK_takeTo 6 (some 9) (.agg #[.slice (some ⟨g1, 0, none⟩) S.length c1']) [] rfl rfl (by kernel_rfl) (by kernel_rfl) (by kernel_rfl) (by kernel_rfl) (fun _ _ _ h => h) hS1 (Or.inl ⟨rfl, fun w1 hw1 => by go_simp⟩) ?_
  simp only [Act.put, List.setIfInBounds_toArray, List.set_cons_zero, List.set_cons_succ]
  refine wpAnyK_one (i := 11) (by kernel_rfl) rfl rfl ?_
  refine wp_call_to (some 14) rfl 55 #[pv] (by go_simp) (clone27_any (ownsRow_fr h.pend F01 (by simp)) (encW_oneCell L) hb) ?_
  rintro e w2 ⟨pa, pc, rfl, ho2, hp2, F2⟩
  refine ⟨_, rfl, ?_⟩
  simp only [Act.put, List.setIfInBounds_toArray, List.set_cons_zero, List.set_cons_succ]
  have F02 : Fr w w2 (fun _ => False) := (F01.trans F2).mono (by simp)
  have hS2 : w2.cell? ⟨b, 0, none⟩ = some (.slice (some ⟨gs, 0, none⟩) S.length cs) ∧ w2.cell? ⟨b, 1, none⟩ = some pv :=
    ⟨by rw [World.cell?_of_block (w := w) (F02.block b (World.block_lt_of_cell? w _ c0) id)]; exact c0, by rw [World.cell?_of_block (w := w) (F02.block b (World.block_lt_of_cell? w _ c1) id)]; exact c1⟩
  refine ⟨fun _ => hS2, ?_⟩
  refine wpAnyK_takeTo 12 (some 15) (.agg #[.slice (some ⟨g1, 0, none⟩) S.length c1', .slice pa L.length pc]) [] rfl rfl (by kernel_rfl) (by kernel_rfl) (by kernel_rfl) (by kernel_rfl) (fun _ _ _ h => h) hS2 (Or.inl ⟨rfl, fun w1 hw1 => by go_simp⟩) ?_
  simp only [Act.put, List.setIfInBounds_toArray, List.set_cons_zero, List.set_cons_succ]
  refine wpAnyK_one (i := 13) (by kernel_rfl) rfl rfl ?_
  go_simp
  obtain ⟨W3, hW3⟩ : ∃ W3, W3 = w2.alloc (.cells #[.slice (some ⟨g1, 0, none⟩) S.length c1', .slice pa L.length pc] 82) := ⟨_, rfl⟩
  rw [← hW3]
  have F23 : Fr w2 W3 (fun _ => False) := by rw [hW3]; exact Fr.alloc _ _ _
  have F03 : Fr w W3 (fun _ => False) := (F02.trans F23).mono (by simp)
  have hS3 : W3.cell? ⟨b, 0, none⟩ = some (.slice (some ⟨gs, 0, none⟩) S.length cs) ∧ W3.cell? ⟨b, 1, none⟩ = some pv :=
    ⟨by rw [World.cell?_of_block (w := w) (F03.block b (World.block_lt_of_cell? w _ c0) id)]; exact c0, by rw [World.cell?_of_block (w := w) (F03.block b (World.block_lt_of_cell? w _ c1) id)]; exact c1⟩
  have HW3 := hide hW3
  clear hW3
  refine ⟨hS3, ?_⟩
  refine wpAnyK_one (i := 14) (by kernel_rfl) rfl rfl ?_
  go_simp
  refine wpAnyK_done (by kernel_rfl) ?_ _
  go_wp2
  go_ret
  have s1 := F01.size
  have s2 := F2.size
  have ho1' := ownsRow_fr ho1 (F2.trans F23) (by simp)
  have ho2' := ownsRow_fr ho2 F23 (by simp)
  have hlt1 := (ho1.lt g1 rfl).2
  rcases ho1'.2 with ⟨h2, _⟩ | ⟨g', cap', cur, hv, _, hcg, hle, hmax, hsz, htk⟩
  · simp at h2
  simp only [Value.slice.injEq, Option.some.injEq, Addr.mk.injEq, and_true, true_and] at hv
  obtain ⟨rfl, rfl⟩ := hv
  refine ⟨w2.heap.size, g1, c1', cur, _, rfl, ⟨latest_block HW3.out, hcg, hle, hmax, hsz, htk, ho2', by omega, ?_, ?_, h.lens, h.lenw⟩, F02.size, hg1, ?_, F03⟩
  · intro h2; have := (ho2.lt _ h2).2; omega
  · intro h2; have := hp2 _ h2; omega
  · intro k hk; have := hp2 k hk; omega

end Go.Proofs.Ytachppnakmdjhaa
