/- The document's Set. -/
import Derived.Test.YtnkjknlacmeloaaRc
namespace Go.Proofs.Ytnkjknlacmeloaa
open Go.RowKit
set_option linter.unusedVariables false

set_option maxRecDepth 100000 in
set_option maxHeartbeats 1000000 in
theorem rset_no (w : World) (v : Value) (R : List (List UInt8)) (m : Int) (s : List UInt8) (ho : OwnS w v R) (z y : Int) (hz : z < 0 ∨ (R.length : Int) ≤ z) (hl : s.length ≤ 140737488351232) (hR : R.length ≤ 243) : Calls Try.prog 33 #[.agg #[v, .int .i64 m], .int .i64 z, .int .i64 y, .string (strOf s)] w fun e w' => e = .returned (.tuple #[.agg #[v, .int .i64 m], .int .i64 4]) ∧ Fr w w' (fun _ => False) := by
  obtain ⟨va, vc, rfl, _⟩ := ho.shape
  have hsz := size_strOf s
  have FA := up_two (w := w) (o1 := .cells #[.slice va R.length vc, .int .i64 m] 28) (o2 := .cells #[.slice none 0 0, .int .i64 0] 28)
  have HO := hide (ho.fr FA (fun _ _ h => h))
  have HFA := hide FA
  have HTP := hide ((two_of (heap_alloc_new w (.cells #[.slice va R.length vc, .int .i64 m] 28))).fr (Fr.alloc _ (.cells #[.slice none 0 0, .int .i64 0] 28) (fun _ => False)) (fun h => h))
  have HTR := hide (two_of (heap_alloc_new (w.alloc (.cells #[.slice va R.length vc, .int .i64 m] 28)) (.cells #[.slice none 0 0, .int .i64 0] 28)))
  clear ho FA
  go_enter Try.func33, Try.ntmps33
  by_cases h0 : z < 0
  · go_wp2
    refine bodyPost_ret (results_pair Try.results33 _ _ (w.heap.size + 1) (by have := two_of (heap_alloc_new (w.alloc (.cells #[.slice va R.length vc, .int .i64 m] 28)) (.cells #[.slice va R.length vc, .int .i64 m] 28)); simpa using this) rfl) rfl ⟨rfl, up_two⟩
  · have h1 : (R.length : Int) ≤ z := hz.resolve_left h0
    go_wp2
    refine bodyPost_ret (results_pair Try.results33 _ _ (w.heap.size + 1) (by have := two_of (heap_alloc_new (w.alloc (.cells #[.slice va R.length vc, .int .i64 m] 28)) (.cells #[.slice va R.length vc, .int .i64 m] 28)); simpa using this) rfl) rfl ⟨rfl, up_two⟩

set_option maxRecDepth 100000 in
set_option maxHeartbeats 1000000 in
theorem rset_out (w : World) (v : Value) (R : List (List UInt8)) (m : Int) (s : List UInt8) (ho : OwnS w v R) (k : Nat) (r : List UInt8) (hr : R[k]? = some r) (hrl : r.length ≤ 200) (hR : R.length ≤ 243) (y : Int) (hy : y < 0 ∨ (r.length : Int) < y ∨ (r.length : Int) - y < s.length) (hl : s.length ≤ 140737488351232) : Calls Try.prog 33 #[.agg #[v, .int .i64 m], .int .i64 k, .int .i64 y, .string (strOf s)] w fun e w' => e = .returned (.tuple #[.agg #[v, .int .i64 m], .int .i64 1]) ∧ Fr w w' (fun _ => False) := by
  have hk := (List.getElem?_eq_some_iff.1 hr).1
  have hrs := size_strOf r
  have HR := hide hr
  have HY := hide hy
  have hk0 : ¬ (k : Int) < 0 := by omega
  have hk1 : ¬ (R.length : Int) ≤ (k : Int) := by omega
  obtain ⟨gk, hge, hck⟩ : ∃ gk, (∃ c, v = .slice (some ⟨gk, 0, none⟩) R.length c) ∧ w.cell? ⟨gk, k, none⟩ = some (.string (strOf r)) := by
    obtain ⟨a, c, rfl, _⟩ := ho.shape
    obtain ⟨g, rfl, h1⟩ := ho.at k r hr
    exact ⟨g, ⟨c, rfl⟩, h1⟩
  have hgw : gk < w.heap.size := World.block_lt_of_cell? w _ hck
  clear hr hy
  obtain ⟨vc, rfl⟩ := hge
  have hsz := size_strOf s
  clear ho
  go_enter Try.func33, Try.ntmps33
  by_cases h0 : y < 0
  · go_wp2
    refine bodyPost_ret (results_pair Try.results33 _ _ (w.heap.size + 1) (by have := two_of (heap_alloc_new (w.alloc (.cells #[.slice (some ⟨gk, 0, none⟩) R.length vc, .int .i64 m] 28)) (.cells #[.slice (some ⟨gk, 0, none⟩) R.length vc, .int .i64 m] 28)); simpa using this) rfl) rfl ⟨rfl, up_two⟩
  · by_cases h1 : (r.length : Int) < y
    · go_wp2
      refine bodyPost_ret (results_pair Try.results33 _ _ (w.heap.size + 1) (by have := two_of (heap_alloc_new (w.alloc (.cells #[.slice (some ⟨gk, 0, none⟩) R.length vc, .int .i64 m] 28)) (.cells #[.slice (some ⟨gk, 0, none⟩) R.length vc, .int .i64 m] 28)); simpa using this) rfl) rfl ⟨rfl, up_two⟩
    · have h2 : (r.length : Int) - y < s.length := by have := HY.out; omega
      go_wp2
      refine bodyPost_ret (results_pair Try.results33 _ _ (w.heap.size + 1) (by have := two_of (heap_alloc_new (w.alloc (.cells #[.slice (some ⟨gk, 0, none⟩) R.length vc, .int .i64 m] 28)) (.cells #[.slice (some ⟨gk, 0, none⟩) R.length vc, .int .i64 m] 28)); simpa using this) rfl) rfl ⟨rfl, up_two⟩

set_option maxRecDepth 100000 in
set_option maxHeartbeats 2000000 in
theorem rset_ok (w : World) (v : Value) (R : List (List UInt8)) (m : Int) (s : List UInt8) (ho : OwnS w v R) (k : Nat) (r : List UInt8) (hr : R[k]? = some r) (hrl : r.length ≤ 200) (hR : R.length ≤ 243) (x : Nat) (hx : x + s.length ≤ r.length) : Calls Try.prog 33 #[.agg #[v, .int .i64 m], .int .i64 k, .int .i64 x, .string (strOf s)] w fun e w' => ∃ v', e = .returned (.tuple #[.agg #[v', .int .i64 m], .int .i64 0]) ∧ OwnS w' v' (R.set k (over r x s)) ∧ Fr w w' (fun _ => False) ∧ ∀ q, v'.ownBlock = some q → w.heap.size ≤ q := by
  have hk := (List.getElem?_eq_some_iff.1 hr).1
  have hrs := size_strOf r
  have hk0 : ¬ (k : Int) < 0 := by omega
  have hk1 : ¬ (R.length : Int) ≤ (k : Int) := by omega
  have hx0 : ¬ (x : Int) < 0 := by omega
  have hx1 : ¬ (r.length : Int) < (x : Int) := by omega
  have hx2 : ¬ (r.length : Int) - (x : Int) < s.length := by omega
  have HR := hide hr
  obtain ⟨va, vc, rfl, _⟩ := ho.shape
  obtain ⟨gk, rfl, hck⟩ := ho.at k r hr
  have hgw : gk < w.heap.size := World.block_lt_of_cell? w _ hck
  have hsz := size_strOf s
  have FA := up_two (w := w) (o1 := .cells #[.slice (some ⟨gk, 0, none⟩) R.length vc, .int .i64 m] 28) (o2 := .cells #[.slice none 0 0, .int .i64 0] 28)
  obtain ⟨W0, hW0⟩ : ∃ W0, W0 = (w.alloc (.cells #[.slice (some ⟨gk, 0, none⟩) R.length vc, .int .i64 m] 28)).alloc (.cells #[.slice none 0 0, .int .i64 0] 28) := ⟨_, rfl⟩
  have HO := hide ((ho.fr FA (fun _ _ h => h)).fr (Fr.alloc _ (.cells #[] 9) (fun _ => False)) (fun _ _ h => h))
  have HFA := hide FA
  have HTP := hide ((two_of (heap_alloc_new w (.cells #[.slice (some ⟨gk, 0, none⟩) R.length vc, .int .i64 m] 28))).fr (Fr.alloc _ (.cells #[.slice none 0 0, .int .i64 0] 28) (fun _ => False)) (fun h => h))
  have HTR := hide (two_of (heap_alloc_new (w.alloc (.cells #[.slice (some ⟨gk, 0, none⟩) R.length vc, .int .i64 m] 28)) (.cells #[.slice none 0 0, .int .i64 0] 28)))
  have hs0 : ((w.alloc (.cells #[.slice (some ⟨gk, 0, none⟩) R.length vc, .int .i64 m] 28)).alloc (.cells #[.slice none 0 0, .int .i64 0] 28)).heap.size = w.heap.size + 2 := by simp
  have HN : Hid (OwnS (((w.alloc (.cells #[.slice (some ⟨gk, 0, none⟩) R.length vc, .int .i64 m] 28)).alloc (.cells #[.slice none 0 0, .int .i64 0] 28)).alloc (.cells #[] 9)) (.slice (some ⟨w.heap.size + 2, 0, none⟩) 0 0) []) := by have h := own_builtS ((w.alloc (.cells #[.slice (some ⟨gk, 0, none⟩) R.length vc, .int .i64 m] 28)).alloc (.cells #[.slice none 0 0, .int .i64 0] 28)); rw [hs0] at h; exact h
  clear ho FA hr hW0
  go_enter Try.func33, Try.ntmps33
  go_wp2_with (refine wpList_catS rfl (.tmp 45) (.tmp 47) rfl (.slice (some ⟨w.heap.size + 2, 0, none⟩) 0 0) [] rfl HN.out _ R rfl HO.out (by simp; omega) ?_; intro v5 w5 ho5 hf5 hr5; rw [List.nil_append] at ho5; have HO5 := hide ho5; have HF5 := hide hf5; have HR5 := hide hr5; clear ho5 hf5 hr5)
  have s5 := HF5.out.size
  simp only [World.size_alloc] at s5
  have F5 : Fr ((w.alloc (.cells #[.slice (some ⟨gk, 0, none⟩) R.length vc, .int .i64 m] 28)).alloc (.cells #[.slice none 0 0, .int .i64 0] 28)) w5 (fun _ => False) := ((Fr.alloc ((w.alloc (.cells #[.slice (some ⟨gk, 0, none⟩) R.length vc, .int .i64 m] 28)).alloc (.cells #[.slice none 0 0, .int .i64 0] 28)) (.cells #[] 9) (fun _ => False)).trans HF5.out).mono (fun q hq h => by rcases h with h | h; exact h; (simp [Value.ownBlock] at h; simp only [World.size_alloc] at hq; omega))
  have u5 : ∀ q, v5.ownBlock = some q → w.heap.size + 2 ≤ q := HR5.out.le (by simp) (by intro q hq; simp [Value.ownBlock] at hq; omega)
  obtain ⟨g5, c5, hv5⟩ : ∃ g5 c5, v5 = .slice (some ⟨g5, 0, none⟩) R.length c5 := by
    rcases HO5.out.2 with ⟨_, h0⟩ | ⟨g', cap', cur', hv, _⟩
    · omega
    · exact ⟨g', cap', hv⟩
  subst hv5
  have hg5 : w.heap.size + 2 ≤ g5 := u5 g5 rfl
  obtain ⟨bP, hbP⟩ : ∃ bP, bP = w.heap.size := ⟨_, rfl⟩
  have HTP5 := hide (HTP.out.fr F5 (fun h => h))
  have HTR5 := hide (HTR.out.fr F5 (fun h => h))
  simp only [World.size_alloc] at HTR5
  have HF50 := hide ((HFA.out.trans F5).mono (Y := fun _ => False) (by simp))
  rw [← hbP] at HTP5 HTR5 hg5 ⊢
  have hbw : w.heap.size ≤ bP := by omega
  obtain ⟨_, h5e, hck5⟩ := HO5.out.at k r HR.out
  injection h5e with h5e
  injection h5e with h5e
  subst h5e
  have hz5 := HO5.out.thawed k
  clear hbP F5 HTP HTR HFA HO HN HF5 HR5 u5 s5 hs0
  refine wp_region_K (fun _ => true) (fun _ => True) (by kernel_rfl) ?_
  refine wpAnyK_takeTo 0 (some 49) (.slice (some ⟨g5, 0, none⟩) R.length c5) [] rfl rfl (by kernel_rfl) (by kernel_rfl) (by kernel_rfl) (by kernel_rfl) (fun _ _ _ h => h) trivial (Or.inl ⟨rfl, fun w1 hw1 => by go_simp⟩) ?_
  simp only [Act.put, List.setIfInBounds_toArray, List.set_cons_zero, List.set_cons_succ]
  refine wpAnyK_takeTo 1 (some 50) (.int .i64 (k : Int)) [] rfl rfl (by kernel_rfl) (by kernel_rfl) (by kernel_rfl) (by kernel_rfl) (fun _ _ _ h => h) trivial (Or.inl ⟨rfl, fun w1 hw1 => by go_simp⟩) ?_
  simp only [Act.put, List.setIfInBounds_toArray, List.set_cons_zero, List.set_cons_succ]
  refine wpAnyK_takeTo 2 (some 51) (.string (strOf r)) [] rfl rfl (by kernel_rfl) (by kernel_rfl) (by kernel_rfl) (by kernel_rfl) (fun _ _ _ h => h) trivial (Or.inl ⟨rfl, fun w1 hw1 => by go_simp⟩) ?_
  simp only [Act.put, List.setIfInBounds_toArray, List.set_cons_zero, List.set_cons_succ]
  refine wpAnyK_takeTo 3 (some 52) (.int .i64 (x : Int)) [] rfl rfl (by kernel_rfl) (by kernel_rfl) (by kernel_rfl) (by kernel_rfl) (fun _ _ _ h => h) trivial (Or.inl ⟨rfl, fun w1 hw1 => by go_simp⟩) ?_
  simp only [Act.put, List.setIfInBounds_toArray, List.set_cons_zero, List.set_cons_succ]
  refine wpAnyK_takeTo 4 (some 53) (.string (strOf (r.take x))) [] rfl rfl (by kernel_rfl) (by kernel_rfl) (by kernel_rfl) (by kernel_rfl) (fun _ _ _ h => h) trivial (Or.inl ⟨rfl, fun w1 hw1 => by go_simp; rw [strOf_extract]; simp⟩) ?_
  simp only [Act.put, List.setIfInBounds_toArray, List.set_cons_zero, List.set_cons_succ]
  refine wpAnyK_takeTo 5 (some 54) (.string (strOf s)) [] rfl rfl (by kernel_rfl) (by kernel_rfl) (by kernel_rfl) (by kernel_rfl) (fun _ _ _ h => h) trivial (Or.inl ⟨rfl, fun w1 hw1 => by go_simp⟩) ?_
  simp only [Act.put, List.setIfInBounds_toArray, List.set_cons_zero, List.set_cons_succ]
  refine wpAnyK_takeTo 6 (some 55) (.string (strOf (r.take x ++ s))) [] rfl rfl (by kernel_rfl) (by kernel_rfl) (by kernel_rfl) (by kernel_rfl) (fun _ _ _ h => h) trivial (Or.inl ⟨rfl, fun w1 hw1 => exec_concat 9 9 (.tmp 53) (.tmp 54) rfl rfl rfl (by rw [List.length_take]; omega)⟩) ?_
  simp only [Act.put, List.setIfInBounds_toArray, List.set_cons_zero, List.set_cons_succ]
  refine wpAnyK_takeTo 7 (some 56) (.string (strOf r)) [] rfl rfl (by kernel_rfl) (by kernel_rfl) (by kernel_rfl) (by kernel_rfl) (fun _ _ _ h => h) trivial (Or.inl ⟨rfl, fun w1 hw1 => by go_simp⟩) ?_
  simp only [Act.put, List.setIfInBounds_toArray, List.set_cons_zero, List.set_cons_succ]
  refine wpAnyK_takeTo 8 (some 57) (.int .i64 (x : Int)) [] rfl rfl (by kernel_rfl) (by kernel_rfl) (by kernel_rfl) (by kernel_rfl) (fun _ _ _ h => h) trivial (Or.inl ⟨rfl, fun w1 hw1 => by go_simp⟩) ?_
  simp only [Act.put, List.setIfInBounds_toArray, List.set_cons_zero, List.set_cons_succ]
  refine wpAnyK_takeTo 9 (some 58) (.string (strOf s)) [] rfl rfl (by kernel_rfl) (by kernel_rfl) (by kernel_rfl) (by kernel_rfl) (fun _ _ _ h => h) trivial (Or.inl ⟨rfl, fun w1 hw1 => by go_simp⟩) ?_
  simp only [Act.put, List.setIfInBounds_toArray, List.set_cons_zero, List.set_cons_succ]
  refine wpAnyK_takeTo 10 (some 59) (.int .i64 (s.length : Int)) [] rfl rfl (by kernel_rfl) (by kernel_rfl) (by kernel_rfl) (by kernel_rfl) (fun _ _ _ h => h) trivial (Or.inl ⟨rfl, fun w1 hw1 => by go_simp⟩) ?_
  simp only [Act.put, List.setIfInBounds_toArray, List.set_cons_zero, List.set_cons_succ]
  refine wpAnyK_takeTo 11 (some 60) (.int .i64 ((x : Int) + s.length)) [] rfl rfl (by kernel_rfl) (by kernel_rfl) (by kernel_rfl) (by kernel_rfl) (fun _ _ _ h => h) trivial (Or.inl ⟨rfl, fun w1 hw1 => by go_simp; rw [IntKind.wrap_i64]; omega⟩) ?_
  simp only [Act.put, List.setIfInBounds_toArray, List.set_cons_zero, List.set_cons_succ]
  refine wpAnyK_takeTo 12 (some 61) (.string (strOf (r.drop (x + s.length)))) [] rfl rfl (by kernel_rfl) (by kernel_rfl) (by kernel_rfl) (by kernel_rfl) (fun _ _ _ h => h) trivial (Or.inl ⟨rfl, fun w1 hw1 => by go_simp; rw [strOf_extract, List.take_of_length_le (by rw [List.length_drop]; omega), if_pos (by omega), show ((x : Int) + s.length).toNat = x + s.length by omega]⟩) ?_
  simp only [Act.put, List.setIfInBounds_toArray, List.set_cons_zero, List.set_cons_succ]
  refine wpAnyK_takeTo 13 (some 62) (.string (strOf (over r x s))) [] rfl rfl (by kernel_rfl) (by kernel_rfl) (by kernel_rfl) (by kernel_rfl) (fun _ _ _ h => h) trivial (Or.inl ⟨rfl, fun w1 hw1 => by rw [← over_parts r s x s.length rfl]; exact exec_concat 9 9 (.tmp 55) (.tmp 61) rfl rfl rfl (by rw [List.length_append, List.length_take, List.length_drop]; omega)⟩) ?_
  simp only [Act.put, List.setIfInBounds_toArray, List.set_cons_zero, List.set_cons_succ]
  refine wpAnyK_takeTo 14 (some 63) (.pointer (some ⟨g5, k, none⟩)) [] rfl rfl (by kernel_rfl) (by kernel_rfl) (by kernel_rfl) (by kernel_rfl) (fun _ _ _ h => h) trivial (Or.inl ⟨rfl, fun w1 hw1 => by go_simp⟩) ?_
  simp only [Act.put, List.setIfInBounds_toArray, List.set_cons_zero, List.set_cons_succ]
  refine wpAnyK_one (i := 15) (by kernel_rfl) rfl rfl ?_
  go_simp
  refine wpAnyK_done (by kernel_rfl) ?_ _
  have F6 : Fr w5 (w5.setCell ⟨g5, k, none⟩ (.string (strOf (over r x s)))).drew (fun q => q = g5) := ((Fr.setCell w5 ⟨g5, k, none⟩ (.string (strOf (over r x s)))).trans (Fr.drew _ (fun _ => False))).mono (fun q hq h => by rcases h with h | h; exact h; exact h.elim)
  have HO6 := hide ((HO5.out.put k (over r x s)).fr (Fr.drew _ (fun _ => False)) (fun _ _ h => h))
  have HTP6 := hide (HTP5.out.fr F6 (by omega))
  have HTR6 := hide (HTR5.out.fr F6 (by omega))
  have HF6 := hide ((HF50.out.trans F6).mono (Y := fun _ => False) (fun q hq h => by rcases h with h | h; exact h; omega))
  generalize (w5.setCell ⟨g5, k, none⟩ (.string (strOf (over r x s)))).drew = W6 at *
  have e0 := HTP6.out.1
  have e1 := HTP6.out.2.1
  have y0 := HTP6.out.2.2 0
  have r0 := HTR6.out.1
  have r1 := HTR6.out.2.1
  have z0 := HTR6.out.2.2 0
  have z1 := HTR6.out.2.2 1
  have HT9 := hide (((HTR6.out.fr (Fr.setCell W6 ⟨bP, 0, none⟩ (.slice (some ⟨g5, 0, none⟩) R.length c5)) (fun h => by have h : bP + 1 = bP := h; omega)).set0 (.slice (some ⟨g5, 0, none⟩) R.length c5)).set1 (.int .i64 m))
  have FS := ((Fr.setCell W6 ⟨bP, 0, none⟩ (.slice (some ⟨g5, 0, none⟩) R.length c5)).trans (Fr.setCell _ ⟨bP + 1, 0, none⟩ (.slice (some ⟨g5, 0, none⟩) R.length c5))).trans (Fr.setCell _ ⟨bP + 1, 1, none⟩ (.int .i64 m))
  have HO9 := hide (HO6.out.fr FS (fun q hq h => by simp [Value.ownBlock] at hq; rcases h with (h | h) | h <;> (simp only [] at h; omega)))
  have HF9 := hide ((HF6.out.trans FS).mono (Y := fun _ => False) (fun q hq h => by rcases h with h | ((h | h) | h); exact h; all_goals (simp only [] at h; omega)))
  clear FS F6 HO5 HTP5 HTR5 HF50 hck5 hz5
  go_wp2
  refine bodyPost_ret (results_pair Try.results33 _ _ (bP + 1) HT9.out rfl) rfl ⟨_, rfl, HO9.out, HF9.out, ?_⟩
  intro q hq
  simp [Value.ownBlock] at hq
  omega
end Go.Proofs.Ytnkjknlacmeloaa
