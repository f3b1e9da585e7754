/- The document's New. -/
import Derived.Test.YtachppnakmdjhaaXc
namespace Go.Proofs.Ytachppnakmdjhaa
open Go.RowKit

set_option maxRecDepth 100000 in
set_option maxHeartbeats 400000 in
theorem rnew_no (v : Int) (h : v < 1 ∨ 4096 < v) (w : World) :
    Calls Try.prog 10 #[.int .i64 v] w fun e w' => e = .returned (.tuple #[.agg #[.slice none 0 0, .slice none 0 0], .int .i64 1]) ∧ Fr w w' (fun _ => False) := by
  by_cases h1 : v < 1
  · clear h
    go_enter Try.func10, Try.ntmps10
    go_wp2
    exact bodyPost_ret (results_two2 Try.results10 _ _ w.heap.size (two_of (heap_alloc_new w _)) rfl rfl) rfl ⟨rfl, Fr.alloc _ _ _⟩
  · have h2 : 4096 < v := by omega
    clear h
    go_enter Try.func10, Try.ntmps10
    go_wp2
    exact bodyPost_ret (results_two2 Try.results10 _ _ w.heap.size (two_of (heap_alloc_new w _)) rfl rfl) rfl ⟨rfl, Fr.alloc _ _ _⟩

theorem strs_snoc (k : Nat) : strs (List.replicate (k + 1) blank) = strs (List.replicate k blank) ++ [.string (strOf blank)] := by
  rw [strs, List.replicate_succ', List.map_append]; rfl

set_option maxRecDepth 100000 in
set_option maxHeartbeats 1000000 in
theorem rnew_any (n : Nat) (h1 : 1 ≤ n) (hn : n ≤ 4096) (w : World) :
    Calls Try.prog 10 #[.int .i64 n] w fun e w' => ∃ a c, e = .returned (.tuple #[.agg #[.slice a n c, .slice none 0 0], .int .i64 0]) ∧ w'.ownsRow 0 9 1 (.slice a n c) n (strs (List.replicate n blank)) ∧
      (∀ k, (Value.slice a n c).ownBlock = some k → w.heap.size ≤ k) ∧ Fr w w' (fun _ => False) := by
  obtain ⟨i9, p1, p2, p3, p4⟩ := full9
  have P1 := hide p1
  have P2 := hide p2
  have P3 := hide p3
  have P4 := hide p4
  clear p1 p2 p3 p4
  go_enter Try.func10, Try.ntmps10
  go_wp2
  obtain ⟨w0, hw0⟩ : ∃ w0, w0 = (w.alloc (.cells #[.slice none 0 0, .slice none 0 0] 31)).alloc (.cells #[.slice none 0 0, .slice none 0 0] 31) := ⟨_, rfl⟩
  rw [← hw0]
  have T1 : Two w0 w.heap.size (.slice none 0 0) (.slice none 0 0) := by rw [hw0]; exact two_of (heap_alloc2_old w _ _)
  have T2 : Two w0 (w.heap.size + 1) (.slice none 0 0) (.slice none 0 0) := by rw [hw0]; exact two_of (heap_alloc2_new w _ _)
  have F0 : Fr w w0 (fun _ => False) := by rw [hw0]; exact Fr.alloc2 w _ _
  have HS0 := hide (by rw [hw0]; simp : w0.heap.size = w.heap.size + 2)
  have HT1 := hide T1
  have HT2 := hide T2
  have HF0 := hide F0
  clear hw0 T1 T2 F0
  go_loopw [5] (fun i wr => ∃ k : Nat, k ≤ n ∧ i = .int .i64 k ∧ ∃ a c, Two wr w.heap.size (.slice none 0 0) (.slice none 0 0) ∧ Two wr (w.heap.size + 1) (.slice a k c) (.slice none 0 0) ∧ wr.ownsRow 0 9 1 (.slice a k c) k (strs (List.replicate k blank)) ∧
    (∀ q, (Value.slice a k c).ownBlock = some q → w.heap.size + 2 ≤ q) ∧ w.heap.size + 2 ≤ wr.heap.size ∧ Fr w wr (fun _ => False)) (fun i _ => n - (intOf i).toNat)
  case atStart => exact ⟨0, Nat.zero_le _, rfl, none, 0, HT1.out, HT2.out, World.ownsRow_nil _ _ _ _, by simp [Value.ownBlock], by rw [HS0.out]; omega, HF0.out⟩
  case round =>
    obtain ⟨k, hk, rfl, a, c, t1, t2, ho, hf, hs, hF⟩ := hrel
    have HA1 := hide t1
    have HA2 := hide t2
    have HO := hide ho
    have HG := hide hf
    have HF := hide hF
    by_cases hlt : k < n
    · have c0 := t2.1
      clear t1 t2 ho hf hF
      have hk1 : (k : Int) < (n : Int) := by omega
      go_wp2_with fail
      refine wp_region_K (fun i => !(i == 6)) (fun W => W.cell? ⟨w.heap.size + 1, 0, none⟩ = some (.slice a k c)) (by kernel_rfl) ?_
      have hS : wr.drew.cell? ⟨w.heap.size + 1, 0, none⟩ = some (.slice a k c) := by simpa using c0
      refine wpAnyK_takeTo 0 (some 19) (.pointer (some ⟨w.heap.size + 1, 0, none⟩)) [1, 4, 6] rfl rfl (by kernel_rfl) (by kernel_rfl) (by kernel_rfl) (by kernel_rfl) (fun _ _ _ h => h) hS (Or.inl ⟨rfl, fun w1 hw1 => by go_simp⟩) ?_
      simp only [Act.put, List.setIfInBounds_toArray, List.set_cons_zero, List.set_cons_succ]
      refine wpAnyK_takeTo 1 (some 20) (.slice a k c) [4, 6] rfl rfl (by kernel_rfl) (by kernel_rfl) (by kernel_rfl) (by kernel_rfl) (fun _ _ _ h => h) hS (Or.inl ⟨rfl, fun w1 hw1 => by simp only [] at hw1; go_simp⟩) ?_
      simp only [Act.put, List.setIfInBounds_toArray, List.set_cons_zero, List.set_cons_succ]
      refine wpAnyK_one (i := 2) (by kernel_rfl) rfl rfl ?_
      refine wp_call_to (some 21) rfl 32 #[] (by go_simp) (blank_any wr.drew) ?_
      rintro e w1 ⟨rfl, F1⟩
      have F1' : Fr wr w1 (fun _ => False) := ((Fr.drew wr (fun _ => False)).trans F1).mono (by simp)
      have s1 := F1'.size
      have B1 := HA1.out.fr F1' id
      have B2 := HA2.out.fr F1' id
      refine ⟨_, rfl, ?_⟩
      simp only [Act.put, List.setIfInBounds_toArray, List.set_cons_zero, List.set_cons_succ]
      refine ⟨fun _ => B2.1, ?_⟩
      refine wpAnyK_one (i := 3) (by kernel_rfl) rfl rfl ?_
      go_simp
      obtain ⟨W2, hW2⟩ : ∃ W2, W2 = w1.alloc (.cells #[.string (strOf blank)] 9) := ⟨_, rfl⟩
      rw [← hW2]
      have F2 : Fr w1 W2 (fun _ => False) := by rw [hW2]; exact Fr.alloc _ _ _
      have hN : ∀ j u, [Value.string (strOf blank)][j]? = some u → W2.cell? ((⟨w1.heap.size, 0, none⟩ : Addr).add j) = some u := by
        rw [hW2]; exact cell_one_new w1 _ 9
      have F02 : Fr wr W2 (fun _ => False) := (F1'.trans F2).mono (by simp)
      clear hW2
      have C1 := HA1.out.fr F02 id
      have C2 := HA2.out.fr F02 id
      refine ⟨C2.1, ?_⟩
      obtain ⟨v', W3, hrun, hown, hgr, hfr⟩ := run_append_gen (P := Try.prog) W2 28 28 9 i9 _ 1 16 Try.underlying28 P1.out P2.out P3.out P4.out rfl (by omega) (.slice a k c) k _ (ownsRow_fr HO.out F02 (by simp)) ⟨w1.heap.size, 0, none⟩ 1 1 [.string (strOf blank)] rfl hN (one_str _) (by unfold maxLen; omega) (by omega)
      obtain ⟨a', c', hv'⟩ : ∃ a' c', v' = .slice a' (k + 1) c' := by
        rcases hown.2 with ⟨_, h5⟩ | ⟨g', c', cur', h4, _⟩
        · omega
        · exact ⟨_, c', h4⟩
      subst hv'
      have F3 : Fr W2 W3 (fun q => (Value.slice a k c).ownBlock = some q) := Fr.grown hgr
      have hx1 : ¬ (Value.slice a k c).ownBlock = some w.heap.size := fun h => by have := HG.out _ h; omega
      have hx2 : ¬ (Value.slice a k c).ownBlock = some (w.heap.size + 1) := fun h => by have := HG.out _ h; omega
      have D1 := C1.fr F3 hx1
      have D2 := C2.fr F3 hx2
      refine wpAnyK_one (i := 4) (by kernel_rfl) rfl rfl ?_
      refine wp_append_to (.tmp 20) (.tmp 22) 28 rfl (some 23) rfl 28 rfl _ _ rfl rfl _ W3 hrun ?_
      simp only [Act.put, List.setIfInBounds_toArray, List.set_cons_zero, List.set_cons_succ]
      refine ⟨fun _ => D2.1, ?_⟩
      have hS2 := D2.1
      refine wpAnyK_takeTo 5 (some 24) (.pointer (some ⟨w.heap.size + 1, 0, none⟩)) [6] rfl rfl (by kernel_rfl) (by kernel_rfl) (by kernel_rfl) (by kernel_rfl) (fun _ _ _ h => h) hS2 (Or.inl ⟨rfl, fun w1 hw1 => by go_simp⟩) ?_
      simp only [Act.put, List.setIfInBounds_toArray, List.set_cons_zero, List.set_cons_succ]
      have hz2 := D2.2.2 0
      refine wpAnyK_one (i := 6) (by kernel_rfl) rfl rfl ?_
      go_simp
      refine wpAnyK_done (by kernel_rfl) ?_ _
      have A := Fr.setCell W3 ⟨w.heap.size + 1, 0, none⟩ (.slice a' (k + 1) c')
      have gg : ∀ q, (Value.slice a' (k + 1) c').ownBlock = some q → w.heap.size + 2 ≤ q := by
        intro q hq
        rcases hfr with h4 | ⟨k', h4, h5⟩
        · rw [h4] at hq; exact HG.out q hq
        · rw [h4] at hq; injection hq; have := F02.size; omega
      have hne : ∀ q, (Value.slice a' (k + 1) c').ownBlock = some q → ¬ q = w.heap.size + 1 := fun q hq h => by have := gg q hq; omega
      have E1 := hide (D1.fr A (by show ¬ (w.heap.size = w.heap.size + 1); omega))
      have E2 := hide (D2.set0 (.slice a' (k + 1) c'))
      have EO := hide (ownsRow_fr hown A hne)
      have EG := hide gg
      have ES := hide (by have h4 := F3.size; have h5 := F02.size; have h6 := A.size; omega : w.heap.size + 2 ≤ (W3.setCell ⟨w.heap.size + 1, 0, none⟩ (.slice a' (k + 1) c')).heap.size)
      have EF : Hid (Fr w (W3.setCell ⟨w.heap.size + 1, 0, none⟩ (.slice a' (k + 1) c')) (fun _ => False)) := (HF.out.trans (F02.trans (F3.trans A))).mono (by
        rintro q hq (h3 | h3 | h3 | h3)
        · exact h3
        · exact h3
        · have := HG.out q h3; omega
        · have : q = w.heap.size + 1 := h3
          omega)
      clear hgr hown hrun F3 D1 D2 A gg hne hfr C1 C2 B1 B2 F02 F2 F1' F1 hN hz2 hS2
      go_wp2
      go_roundw
      case rel => exact ⟨k + 1, by omega, by go_num, a', c', E1.out, E2.out, by rw [strs_snoc]; exact EO.out, EG.out, ES.out, EF.out⟩
      case measure => simp [intOf]; omega
    · have x0 := t2.1
      have x1 := t2.2.1
      have x2 := t1.1
      have x3 := t1.2.1
      have x4 := t1.2.2 0
      have x5 := t1.2.2 1
      clear t1 t2 ho hf hF
      obtain rfl : k = n := by omega
      go_wp2
      have A0 := Fr.setCell wr ⟨w.heap.size, 0, none⟩ (.slice a k c)
      have R := (HA1.out.set0 (.slice a k c)).set1 (.slice none 0 0)
      refine bodyPost_ret (results_two2 Try.results10 _ _ _ R rfl rfl) rfl ⟨a, c, rfl, ?_, ?_, ?_⟩
      · refine ownsRow_fr HO.out (A0.trans (Fr.setCell _ ⟨w.heap.size, 1, none⟩ (.slice none 0 0))) (fun q hq => ?_)
        have := HG.out q hq
        rintro (h3 | h3)
        · have : q = w.heap.size := h3
          omega
        · have : q = w.heap.size := h3
          omega
      · intro q hq; have := HG.out q hq; omega
      · refine (HF.out.trans (A0.trans (Fr.setCell _ ⟨w.heap.size, 1, none⟩ (.slice none 0 0)))).mono ?_
        rintro q hq (h3 | h3 | h3)
        · exact h3
        · have : q = w.heap.size := h3
          omega
        · have : q = w.heap.size := h3
          omega

end Go.Proofs.Ytachppnakmdjhaa
