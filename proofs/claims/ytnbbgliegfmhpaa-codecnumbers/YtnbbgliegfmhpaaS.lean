/- Numbers as bytes and back: the walk of CodecNumbers. -/
import Derived.Test.YtnbbgliegfmhpaaR
namespace Go.Proofs.Ytnbbgliegfmhpaa
open Go.RowKit

theorem OwnB.place {w : World} {v : Value} {l : List UInt8} (h : OwnB w v l) (h0 : l ≠ []) : ∃ g c, v = .slice (some ⟨g, 0, none⟩) l.length c := by
  rcases h.2 with ⟨h1, h2⟩ | ⟨g, cap, cur, hv, _⟩
  · exact absurd (List.eq_nil_of_length_eq_zero h2) h0
  · exact ⟨g, cap, hv⟩
theorem own_built (w : World) : OwnB (w.alloc (.cells #[] 5)) (.slice (some ⟨w.heap.size, 0, none⟩) 0 0) [] :=
  World.ownsRow_made w _ 0 (Nat.zero_le _) (by unfold maxLen; omega) (by simp)
theorem BI.cell {w : World} {g n : Nat} {l : List UInt8} (h : BI w (some ⟨g, 0, none⟩) n l) (j : Nat) (u : UInt8) (hu : l[j]? = some u) : w.cell? ⟨g, j, none⟩ = some (.int .u8 u.toNat) := by
  have hj := (List.getElem?_eq_some_iff.1 hu).1
  obtain ⟨g', off, he, hc⟩ := h.2.resolve_left (by have := h.1; omega)
  simp only [Option.some.injEq, Addr.mk.injEq, and_true] at he
  obtain ⟨rfl, rfl⟩ := he
  have := hc j u hu
  rwa [Nat.zero_add] at this
theorem run_mine (g n c : Nat) (h : n + 1 ≤ c) (m : Nat) (hm : m ≤ n + 1) : ∀ W, (Instr.slice 22 (.slice (some ⟨g, 0, none⟩) (n + 1) c) none (some (.int .i64 (m : Int))) none).run Try.prog W = .ok (.slice (some ⟨g, 0, none⟩) m c) W := by
  intro W
  rw [run_slice_h (P := Try.prog) W 22 _ (n + 1) c ht22 .i64 (m : Int) (by omega) (by omega), size_elem22]
  simp only [Result.andThen_ok, sliced, Int.toNat_natCast, Nat.sub_zero]
  rw [if_neg (by omega)]
  rfl
theorem run_mine1 (g n c : Nat) (h : n + 1 ≤ c) : ∀ W, (Instr.slice 22 (.slice (some ⟨g, 0, none⟩) n c) none (some (.int .i64 ((n : Int) + 1))) none).run Try.prog W = .ok (.slice (some ⟨g, 0, none⟩) (n + 1) c) W := by
  intro W
  rw [run_slice_h (P := Try.prog) W 22 _ n c ht22 .i64 ((n : Int) + 1) (by omega) (by omega), size_elem22]
  simp only [Result.andThen_ok, sliced, Nat.sub_zero]
  rw [if_neg (by omega)]
  rfl

set_option maxRecDepth 100000 in
set_option maxHeartbeats 4000000 in
theorem numbers_walk (a : Option Addr) (n c : Nat) (l : List UInt8) (x : Nat) (z : Int) (w : World) (hb : BI w a n l) (hc : a = none → c = 0) (hlen : n ≤ 140737488351232) (hx : x < 18446744073709551616) :
    Calls Try.prog 4 #[.slice a n c, .int .u64 x, .int .i64 z] w fun e w' => e = .returned (.bool true) ∧ Fr w w' (fun _ => False) := by
  obtain ⟨k, hz⟩ : ∃ k : Nat, min (max z 0) 8 = (k : Int) := ⟨(min (max z 0) 8).toNat, by omega⟩
  have hk8 : k ≤ 8 := by omega
  have HZ := hide hz
  clear hz
  have HB := hide hb
  have HC := hide hc
  have hll := hb.1
  clear hb hc
  go_enter Try.func4, Try.ntmps4
  go_wp2_with fail
  refine (awake_any w).mono ?_
  rintro e w1 ⟨rfl, F1⟩
  have HF1 := hide F1
  have HB1 := hide ((HB.out.fr F1 (fun _ _ _ _ h => h)).fr (Fr.alloc w1 (.cells #[] 5) (fun _ => False)) (fun _ _ _ _ h => h))
  have HM1 := hide (own_built w1)
  have HL1 := hide (by simp; omega : ([] : List UInt8).length + n ≤ 140737488355328)
  have HL2 := hide (by simp; omega : ([] ++ l).length + 1 ≤ 140737488355328)
  clear F1
  go_wp2_with (first | (refine wpList_pushAll rfl (.tmp 11) (.tmp 12) rfl (.slice (some ⟨w1.heap.size, 0, none⟩) 0 0) _ rfl HM1.out a n c _ rfl HB1.out HC.out HL1.out ?_; intro v2 w2 ho2 hf2 hr2; have HO2 := hide ho2; have HF2 := hide hf2; have HR2 := hide hr2; clear ho2 hf2 hr2) | (refine wpList_push rfl (.tmp 13) (.tmp 14) rfl v2 _ rfl HO2.out _ 1 [77] rfl rfl _ rfl rfl HL2.out ?_; intro v3 w3 ho3 hf3 hr3; obtain ⟨g3, c3, hv3⟩ := ho3.place (by simp); subst hv3; have hc3 := ho3.cap.1; have hl3 : ([] ++ l ++ [77]).length = n + 1 := (by simp [hll]); rw [hl3] at hc3; rw [hl3]; have hq := run_mine g3 n c3 hc3 n (by omega); have HO3 := hide ho3; have HF3 := hide hf3; have HR3 := hide hr3; clear ho3 hf3 hr3))
  have s1 := HF1.out.size
  have s2 := HF2.out.size
  have s3 := HF3.out.size
  simp only [World.size_alloc] at s2
  have hb3 : BI w3 (some ⟨g3, 0, none⟩) (n + 1) (l ++ [77]) := by have h := HO3.out.bi; rw [hl3, List.nil_append] at h; exact h
  have hb3n : BI w3 (some ⟨g3, 0, none⟩) n l := by
    obtain ⟨h1, h2⟩ := hb3
    refine ⟨hll, ?_⟩
    by_cases h0 : n = 0
    · exact .inl h0
    · right
      obtain ⟨g', off, he, hcc⟩ := h2.resolve_left (by omega)
      exact ⟨g', off, he, fun j u hu => hcc j u (by rw [List.getElem?_append_left (List.getElem?_eq_some_iff.1 hu).1]; exact hu)⟩
  have h77 : w3.cell? ⟨g3, n, none⟩ = some (.int .u8 77) := hb3.cell n 77 (by rw [List.getElem?_append_right (by omega), hll]; simp)
  have u2 : ∀ q, v2.ownBlock = some q → w1.heap.size ≤ q := HR2.out.le (by simp) (by intro q hq; simp [Value.ownBlock] at hq; omega)
  have F3 : Fr w w3 (fun _ => False) := by
    refine (((HF1.out.trans (Fr.alloc w1 (.cells #[] 5) (fun _ => False))).trans HF2.out).trans HF3.out).mono (fun q hq h => ?_)
    rcases h with ((h | h) | h) | h
    · exact h
    · exact h
    · simp [Value.ownBlock] at h; omega
    · have := u2 q h; omega
  have hbw3 : BI w3 a n l := HB.out.fr F3 (fun _ _ _ _ h => h)
  clear HB1 HM1 HL1 HL2 HO2 HF2 HR2 HF1 hq HO3 HF3 HR3 u2
  refine (put_any (some ⟨g3, 0, none⟩) n c3 l x k z HZ.out w3 hb3n (by simp) (by omega)).mono ?_
  rintro e w4 ⟨v8, rfl, ho4, F4, u4⟩
  obtain ⟨a8, c8, rfl⟩ := ho4.shape
  have hc8 := ho4.cap.1
  have hb8 := ho4.bi
  have hl8 : (l ++ numB x k).length = n + k := by rw [List.length_append, length_numB, hll]
  rw [hl8] at hb8 hc8 u4
  rw [hl8]
  have hba4 : BI w4 a n l := hbw3.fr F4 (fun _ _ _ _ h => h)
  have h774 : w4.cell? ⟨g3, n, none⟩ = some (.int .u8 77) := by rw [World.cell?_of_block (w := w3) (F4.block g3 (World.block_lt_of_cell? w3 _ h77) id)]; exact h77
  have F04 : Fr w w4 (fun _ => False) := (F3.trans F4).mono (by simp)
  have HF04 := hide F04
  have HB8 := hide hb8
  have HBA := hide hba4
  have H77 := hide h774
  have hmk := run_mine1 g3 n c3 hc3
  have HMK := hide hmk
  clear F3 F4 F04 hb8 hba4 h774 hb3 hb3n h77 hbw3 ho4 u4 hmk HB
  go_wp2_with fail
  have hS : ∀ V : World, Fr w4 V (fun _ => False) → BI V a8 (n + k) (l ++ numB x k) ∧ BI V a n l ∧ V.cell? ⟨g3, n, none⟩ = some (.int .u8 77) := by
    intro V hV
    exact ⟨HB8.out.fr hV (fun _ _ _ _ h => h), HBA.out.fr hV (fun _ _ _ _ h => h), by rw [World.cell?_of_block (w := w4) (hV.block g3 (World.block_lt_of_cell? w4 _ H77.out) id)]; exact H77.out⟩
  refine wp_region_K (fun _ => true) (fun V => BI V a8 (n + k) (l ++ numB x k) ∧ BI V a n l ∧ V.cell? ⟨g3, n, none⟩ = some (.int .u8 77)) (by kernel_rfl) ?_
  have S0 := hS _ (Fr.drew w4 (fun _ => False))
  refine wpAnyK_takeTo 0 (some 23) (.slice a8 (n + k) c8) [] rfl rfl (by kernel_rfl) (by kernel_rfl) (by kernel_rfl) (by kernel_rfl) (fun _ _ _ h => h) (S0) (Or.inl ⟨rfl, fun w1 hw1 => by go_simp⟩) ?_
  simp only [Act.put, List.setIfInBounds_toArray, List.set_cons_zero, List.set_cons_succ]
  refine wpAnyK_takeTo 1 (some 24) (.string (strOf (l ++ numB x k))) [] rfl rfl (by kernel_rfl) (by kernel_rfl) (by kernel_rfl) (by kernel_rfl) (fun _ _ _ h => h) (S0) (Or.inl ⟨rfl, fun w1 hw1 => exec_string (.tmp 23) rfl rfl hw1.1⟩) ?_
  simp only [Act.put, List.setIfInBounds_toArray, List.set_cons_zero, List.set_cons_succ]
  refine wpAnyK_takeTo 2 (some 25) (.slice a n c) [] rfl rfl (by kernel_rfl) (by kernel_rfl) (by kernel_rfl) (by kernel_rfl) (fun _ _ _ h => h) (S0) (Or.inl ⟨rfl, fun w1 hw1 => by go_simp⟩) ?_
  simp only [Act.put, List.setIfInBounds_toArray, List.set_cons_zero, List.set_cons_succ]
  refine wpAnyK_takeTo 3 (some 26) (.string (strOf l)) [] rfl rfl (by kernel_rfl) (by kernel_rfl) (by kernel_rfl) (by kernel_rfl) (fun _ _ _ h => h) (S0) (Or.inl ⟨rfl, fun w1 hw1 => exec_string (.tmp 25) rfl rfl hw1.2.1⟩) ?_
  simp only [Act.put, List.setIfInBounds_toArray, List.set_cons_zero, List.set_cons_succ]
  refine wpAnyK_takeTo 4 (some 27) (.int .u64 x) [] rfl rfl (by kernel_rfl) (by kernel_rfl) (by kernel_rfl) (by kernel_rfl) (fun _ _ _ h => h) (S0) (Or.inl ⟨rfl, fun w1 hw1 => by go_simp⟩) ?_
  simp only [Act.put, List.setIfInBounds_toArray, List.set_cons_zero, List.set_cons_succ]
  refine wpAnyK_takeTo 5 (some 28) (.int .i64 z) [] rfl rfl (by kernel_rfl) (by kernel_rfl) (by kernel_rfl) (by kernel_rfl) (fun _ _ _ h => h) (S0) (Or.inl ⟨rfl, fun w1 hw1 => by go_simp⟩) ?_
  simp only [Act.put, List.setIfInBounds_toArray, List.set_cons_zero, List.set_cons_succ]
  refine wpAnyK_one (i := 6) (by kernel_rfl) rfl rfl ?_
  refine wp_call_to (some 29) rfl 13 #[.int .u64 x, .int .i64 z] (by go_simp) (number_ref x hx z k HZ.out _) ?_
  rintro e w5 ⟨rfl, F5⟩
  have S1 := hS _ (((Fr.drew w4 (fun _ => False)).trans F5).mono (by simp))
  refine ⟨_, rfl, fun _ => S1, ?_⟩
  simp only [Act.put, List.setIfInBounds_toArray, List.set_cons_zero, List.set_cons_succ]
  refine wpAnyK_takeTo 7 (some 30) (.string (strOf (l ++ numB x k))) [] rfl rfl (by kernel_rfl) (by kernel_rfl) (by kernel_rfl) (by kernel_rfl) (fun _ _ _ h => h) (S1) (Or.inl ⟨rfl, fun w1 hw1 => exec_concat 9 9 (.tmp 26) (.tmp 29) rfl rfl rfl (by rw [length_numB, hll]; omega)⟩) ?_
  simp only [Act.put, List.setIfInBounds_toArray, List.set_cons_zero, List.set_cons_succ]
  refine wpAnyK_takeTo 8 (some 31) (.bool false) [] rfl rfl (by kernel_rfl) (by kernel_rfl) (by kernel_rfl) (by kernel_rfl) (fun _ _ _ h => h) (S1) (Or.inl ⟨rfl, fun w1 hw1 => by go_simp⟩) ?_
  simp only [Act.put, List.setIfInBounds_toArray, List.set_cons_zero, List.set_cons_succ]
  refine wpAnyK_takeTo 9 (some 32) (.bool false) [] rfl rfl (by kernel_rfl) (by kernel_rfl) (by kernel_rfl) (by kernel_rfl) (fun _ _ _ h => h) (S1) (Or.inl ⟨rfl, fun w1 hw1 => by go_simp⟩) ?_
  simp only [Act.put, List.setIfInBounds_toArray, List.set_cons_zero, List.set_cons_succ]
  refine wpAnyK_takeTo 10 (some 33) (.slice (some ⟨g3, 0, none⟩) n c3) [] rfl rfl (by kernel_rfl) (by kernel_rfl) (by kernel_rfl) (by kernel_rfl) (fun _ _ _ h => h) (S1) (Or.inl ⟨rfl, fun w1 hw1 => by go_simp⟩) ?_
  simp only [Act.put, List.setIfInBounds_toArray, List.set_cons_zero, List.set_cons_succ]
  refine wpAnyK_takeTo 11 (some 34) (.slice a n c) [] rfl rfl (by kernel_rfl) (by kernel_rfl) (by kernel_rfl) (by kernel_rfl) (fun _ _ _ h => h) (S1) (Or.inl ⟨rfl, fun w1 hw1 => by go_simp⟩) ?_
  simp only [Act.put, List.setIfInBounds_toArray, List.set_cons_zero, List.set_cons_succ]
  refine wpAnyK_takeTo 12 (some 35) (.int .i64 n) [] rfl rfl (by kernel_rfl) (by kernel_rfl) (by kernel_rfl) (by kernel_rfl) (fun _ _ _ h => h) (S1) (Or.inl ⟨rfl, fun w1 hw1 => by go_simp⟩) ?_
  simp only [Act.put, List.setIfInBounds_toArray, List.set_cons_zero, List.set_cons_succ]
  refine wpAnyK_takeTo 13 (some 36) (.int .i64 ((n : Int) + 1)) [] rfl rfl (by kernel_rfl) (by kernel_rfl) (by kernel_rfl) (by kernel_rfl) (fun _ _ _ h => h) (S1) (Or.inl ⟨rfl, fun w1 hw1 => by go_simp; rw [IntKind.wrap_i64]; omega⟩) ?_
  simp only [Act.put, List.setIfInBounds_toArray, List.set_cons_zero, List.set_cons_succ]
  refine wpAnyK_takeTo 14 (some 37) (.slice (some ⟨g3, 0, none⟩) (n + 1) c3) [] rfl rfl (by kernel_rfl) (by kernel_rfl) (by kernel_rfl) (by kernel_rfl) (fun _ _ _ h => h) (S1) (Or.inl ⟨rfl, fun w1 hw1 => exec_to (.tmp 33) (.tmp 36) rfl rfl rfl HMK.out⟩) ?_
  simp only [Act.put, List.setIfInBounds_toArray, List.set_cons_zero, List.set_cons_succ]
  refine wpAnyK_takeTo 15 (some 38) (.slice a n c) [] rfl rfl (by kernel_rfl) (by kernel_rfl) (by kernel_rfl) (by kernel_rfl) (fun _ _ _ h => h) (S1) (Or.inl ⟨rfl, fun w1 hw1 => by go_simp⟩) ?_
  simp only [Act.put, List.setIfInBounds_toArray, List.set_cons_zero, List.set_cons_succ]
  refine wpAnyK_takeTo 16 (some 39) (.int .i64 n) [] rfl rfl (by kernel_rfl) (by kernel_rfl) (by kernel_rfl) (by kernel_rfl) (fun _ _ _ h => h) (S1) (Or.inl ⟨rfl, fun w1 hw1 => by go_simp⟩) ?_
  simp only [Act.put, List.setIfInBounds_toArray, List.set_cons_zero, List.set_cons_succ]
  refine wpAnyK_takeTo 17 (some 40) (.pointer (some ⟨g3, n, none⟩)) [] rfl rfl (by kernel_rfl) (by kernel_rfl) (by kernel_rfl) (by kernel_rfl) (fun _ _ _ h => h) (S1) (Or.inl ⟨rfl, fun w1 hw1 => by go_simp; intro h; omega⟩) ?_
  simp only [Act.put, List.setIfInBounds_toArray, List.set_cons_zero, List.set_cons_succ]
  refine wpAnyK_takeTo 18 (some 41) (.int .u8 77) [] rfl rfl (by kernel_rfl) (by kernel_rfl) (by kernel_rfl) (by kernel_rfl) (fun _ _ _ h => h) (S1) (Or.inl ⟨rfl, fun w1 hw1 => by have h77 := hw1.2.2; clear hw1; go_simp⟩) ?_
  simp only [Act.put, List.setIfInBounds_toArray, List.set_cons_zero, List.set_cons_succ]
  refine wpAnyK_takeTo 19 (some 42) (.bool false) [] rfl rfl (by kernel_rfl) (by kernel_rfl) (by kernel_rfl) (by kernel_rfl) (fun _ _ _ h => h) (S1) (Or.inl ⟨rfl, fun w1 hw1 => by go_simp⟩) ?_
  simp only [Act.put, List.setIfInBounds_toArray, List.set_cons_zero, List.set_cons_succ]
  refine wpAnyK_takeTo 20 (some 43) (.bool false) [] rfl rfl (by kernel_rfl) (by kernel_rfl) (by kernel_rfl) (by kernel_rfl) (fun _ _ _ h => h) (S1) (Or.inl ⟨rfl, fun w1 hw1 => by go_simp⟩) ?_
  simp only [Act.put, List.setIfInBounds_toArray, List.set_cons_zero, List.set_cons_succ]
  refine wpAnyK_done (by kernel_rfl) ?_ _
  have F05 := (HF04.out.trans ((Fr.drew w4 (fun _ => False)).trans F5)).mono (Y := fun _ => False) (by simp)
  have HB8 := hide S1.1
  have HBA := hide S1.2.1
  have HF05 := hide F05
  clear F05 S0 S1 F5 hS
  go_wp2_with fail
  obtain ⟨a9, c9, hr9, hb9, hc9⟩ := run_tail a8 (n + k) c8 n (by omega) hc8
  rw [show n + k - n = k by omega] at hr9 hb9 hc9
  have hdr : (l ++ numB x k).drop n = numB x k := by rw [← hll, List.drop_left]
  have HR9 := hide hr9
  have HN9 : Hid (∀ W, BI W a8 (n + k) (l ++ numB x k) → BI W a9 k (numB x k)) := by intro W h; have := hb9 W _ h; rwa [hdr] at this
  clear hr9 hb9 hdr
  refine wp_region_K (fun _ => true) (fun V => BI V a8 (n + k) (l ++ numB x k) ∧ BI V a n l) (by kernel_rfl) ?_
  have S2 : BI w5.drew a8 (n + k) (l ++ numB x k) ∧ BI w5.drew a n l := ⟨HB8.out.fr (Fr.drew _ (fun _ => False)) (fun _ _ _ _ h => h), HBA.out.fr (Fr.drew _ (fun _ => False)) (fun _ _ _ _ h => h)⟩
  refine wpAnyK_takeTo 0 (some 44) (.slice a8 (n + k) c8) [] rfl rfl (by kernel_rfl) (by kernel_rfl) (by kernel_rfl) (by kernel_rfl) (fun _ _ _ h => h) (S2) (Or.inl ⟨rfl, fun w1 hw1 => by go_simp⟩) ?_
  simp only [Act.put, List.setIfInBounds_toArray, List.set_cons_zero, List.set_cons_succ]
  refine wpAnyK_takeTo 1 (some 45) (.slice a n c) [] rfl rfl (by kernel_rfl) (by kernel_rfl) (by kernel_rfl) (by kernel_rfl) (fun _ _ _ h => h) (S2) (Or.inl ⟨rfl, fun w1 hw1 => by go_simp⟩) ?_
  simp only [Act.put, List.setIfInBounds_toArray, List.set_cons_zero, List.set_cons_succ]
  refine wpAnyK_takeTo 2 (some 46) (.int .i64 n) [] rfl rfl (by kernel_rfl) (by kernel_rfl) (by kernel_rfl) (by kernel_rfl) (fun _ _ _ h => h) (S2) (Or.inl ⟨rfl, fun w1 hw1 => by go_simp⟩) ?_
  simp only [Act.put, List.setIfInBounds_toArray, List.set_cons_zero, List.set_cons_succ]
  refine wpAnyK_takeTo 3 (some 47) (.slice a9 k c9) [] rfl rfl (by kernel_rfl) (by kernel_rfl) (by kernel_rfl) (by kernel_rfl) (fun _ _ _ h => h) (S2) (Or.inl ⟨rfl, fun w1 hw1 => exec_from (.tmp 44) (.tmp 46) rfl rfl rfl HR9.out⟩) ?_
  simp only [Act.put, List.setIfInBounds_toArray, List.set_cons_zero, List.set_cons_succ]
  refine wpAnyK_takeTo 5 (some 49) (.slice a8 (n + k) c8) [] rfl rfl (by kernel_rfl) (by kernel_rfl) (by kernel_rfl) (by kernel_rfl) (fun _ _ _ h => h) (S2) (Or.inl ⟨rfl, fun w1 hw1 => by go_simp⟩) ?_
  simp only [Act.put, List.setIfInBounds_toArray, List.set_cons_zero, List.set_cons_succ]
  refine wpAnyK_takeTo 6 (some 50) (.slice a n c) [] rfl rfl (by kernel_rfl) (by kernel_rfl) (by kernel_rfl) (by kernel_rfl) (fun _ _ _ h => h) (S2) (Or.inl ⟨rfl, fun w1 hw1 => by go_simp⟩) ?_
  simp only [Act.put, List.setIfInBounds_toArray, List.set_cons_zero, List.set_cons_succ]
  refine wpAnyK_takeTo 7 (some 51) (.int .i64 n) [] rfl rfl (by kernel_rfl) (by kernel_rfl) (by kernel_rfl) (by kernel_rfl) (fun _ _ _ h => h) (S2) (Or.inl ⟨rfl, fun w1 hw1 => by go_simp⟩) ?_
  simp only [Act.put, List.setIfInBounds_toArray, List.set_cons_zero, List.set_cons_succ]
  refine wpAnyK_takeTo 8 (some 52) (.slice a9 k c9) [] rfl rfl (by kernel_rfl) (by kernel_rfl) (by kernel_rfl) (by kernel_rfl) (fun _ _ _ h => h) (S2) (Or.inl ⟨rfl, fun w1 hw1 => exec_from (.tmp 49) (.tmp 51) rfl rfl rfl HR9.out⟩) ?_
  simp only [Act.put, List.setIfInBounds_toArray, List.set_cons_zero, List.set_cons_succ]
  refine wpAnyK_takeTo 9 (some 53) (.string (strOf (numB x k))) [] rfl rfl (by kernel_rfl) (by kernel_rfl) (by kernel_rfl) (by kernel_rfl) (fun _ _ _ h => h) (S2) (Or.inl ⟨rfl, fun w1 hw1 => exec_string (.tmp 52) rfl rfl (HN9.out _ hw1.1)⟩) ?_
  simp only [Act.put, List.setIfInBounds_toArray, List.set_cons_zero, List.set_cons_succ]
  refine wpAnyK_one (i := 4) (by kernel_rfl) rfl rfl ?_
  refine wp_call_to (some 48) rfl 14 #[.slice a9 k c9] (by go_simp) (get_any a9 k c9 _ _ (HN9.out _ S2.1) (by omega)) ?_
  rintro e w6 ⟨rfl, rfl⟩
  refine ⟨_, rfl, fun _ => S2, ?_⟩
  simp only [Act.put, List.setIfInBounds_toArray, List.set_cons_zero, List.set_cons_succ]
  refine wpAnyK_one (i := 10) (by kernel_rfl) rfl rfl ?_
  refine wp_call_to (some 54) rfl 15 #[.string (strOf (numB x k))] (by go_simp) (refGet_any (numB x k) _ (by rw [length_numB]; omega)) ?_
  rintro e w6 ⟨rfl, rfl⟩
  refine ⟨_, rfl, fun _ => S2, ?_⟩
  simp only [Act.put, List.setIfInBounds_toArray, List.set_cons_zero, List.set_cons_succ]
  refine wpAnyK_takeTo 11 (some 55) (.bool true) [] rfl rfl (by kernel_rfl) (by kernel_rfl) (by kernel_rfl) (by kernel_rfl) (fun _ _ _ h => h) (S2) (Or.inl ⟨rfl, fun w1 hw1 => by go_simp⟩) ?_
  simp only [Act.put, List.setIfInBounds_toArray, List.set_cons_zero, List.set_cons_succ]
  refine wpAnyK_takeTo 12 (some 56) (.bool true) [] rfl rfl (by kernel_rfl) (by kernel_rfl) (by kernel_rfl) (by kernel_rfl) (fun _ _ _ h => h) (S2) (Or.inl ⟨rfl, fun w1 hw1 => by go_simp⟩) ?_
  simp only [Act.put, List.setIfInBounds_toArray, List.set_cons_zero, List.set_cons_succ]
  refine wpAnyK_takeTo 13 (some 57) (.slice a n c) [] rfl rfl (by kernel_rfl) (by kernel_rfl) (by kernel_rfl) (by kernel_rfl) (fun _ _ _ h => h) (S2) (Or.inl ⟨rfl, fun w1 hw1 => by go_simp⟩) ?_
  simp only [Act.put, List.setIfInBounds_toArray, List.set_cons_zero, List.set_cons_succ]
  refine wpAnyK_takeTo 15 (some 59) (.slice a n c) [] rfl rfl (by kernel_rfl) (by kernel_rfl) (by kernel_rfl) (by kernel_rfl) (fun _ _ _ h => h) (S2) (Or.inl ⟨rfl, fun w1 hw1 => by go_simp⟩) ?_
  simp only [Act.put, List.setIfInBounds_toArray, List.set_cons_zero, List.set_cons_succ]
  refine wpAnyK_takeTo 16 (some 60) (.string (strOf l)) [] rfl rfl (by kernel_rfl) (by kernel_rfl) (by kernel_rfl) (by kernel_rfl) (fun _ _ _ h => h) (S2) (Or.inl ⟨rfl, fun w1 hw1 => exec_string (.tmp 59) rfl rfl hw1.2⟩) ?_
  simp only [Act.put, List.setIfInBounds_toArray, List.set_cons_zero, List.set_cons_succ]
  refine wpAnyK_one (i := 14) (by kernel_rfl) rfl rfl ?_
  refine wp_call_to (some 58) rfl 14 #[.slice a n c] (by go_simp) (get_any a n c _ _ S2.2 (by omega)) ?_
  rintro e w6 ⟨rfl, rfl⟩
  refine ⟨_, rfl, fun _ => S2, ?_⟩
  simp only [Act.put, List.setIfInBounds_toArray, List.set_cons_zero, List.set_cons_succ]
  refine wpAnyK_one (i := 17) (by kernel_rfl) rfl rfl ?_
  refine wp_call_to (some 61) rfl 15 #[.string (strOf l)] (by go_simp) (refGet_any l _ (by omega)) ?_
  rintro e w6 ⟨rfl, rfl⟩
  refine ⟨_, rfl, fun _ => S2, ?_⟩
  simp only [Act.put, List.setIfInBounds_toArray, List.set_cons_zero, List.set_cons_succ]
  refine wpAnyK_takeTo 18 (some 62) (.bool true) [] rfl rfl (by kernel_rfl) (by kernel_rfl) (by kernel_rfl) (by kernel_rfl) (fun _ _ _ h => h) (S2) (Or.inl ⟨rfl, fun w1 hw1 => by go_simp⟩) ?_
  simp only [Act.put, List.setIfInBounds_toArray, List.set_cons_zero, List.set_cons_succ]
  refine wpAnyK_takeTo 19 (some 63) (.bool true) [] rfl rfl (by kernel_rfl) (by kernel_rfl) (by kernel_rfl) (by kernel_rfl) (fun _ _ _ h => h) (S2) (Or.inl ⟨rfl, fun w1 hw1 => by go_simp⟩) ?_
  simp only [Act.put, List.setIfInBounds_toArray, List.set_cons_zero, List.set_cons_succ]
  refine wpAnyK_takeTo 20 (some 6) (.bool true) [] rfl rfl (by kernel_rfl) (by kernel_rfl) (by kernel_rfl) (by kernel_rfl) (fun _ _ _ h => h) (S2) (Or.inl ⟨rfl, fun w1 hw1 => by go_simp⟩) ?_
  simp only [Act.put, List.setIfInBounds_toArray, List.set_cons_zero, List.set_cons_succ]
  refine wpAnyK_done (by kernel_rfl) ?_ _
  go_wp2
  go_ret
  exact ⟨rfl, (HF05.out.trans (Fr.drew _ (fun _ => False))).mono (by simp)⟩
end Go.Proofs.Ytnbbgliegfmhpaa
