/- What is handed in is left; answers are new memory: the walk of PeriodKeeps. -/
import Derived.Test.YtaikhmedehbfbaaKc
namespace Go.Proofs.Ytaikhmedehbfbaa
open Go.RowKit
set_option linter.unusedVariables false

set_option maxRecDepth 100000 in
set_option maxHeartbeats 4000000 in
theorem keeps_walk (p : Per) (a : Option Addr) (c : Nat) (L : List Per) (w : World) (hv : Pers w a L) (hL : L.length ≤ 8796093021990) (hac : a = none → c = 0) :
    Calls Try.prog 6 #[perV p, .slice a L.length c] w fun e w' => e = .returned (.bool true) ∧ Fr w w' (fun _ => False) := by
  have FA := Fr.alloc w (.cells #[.int .i64 p.lo, .int .i64 p.hi] 23) (fun _ => False)
  have HFA := hide FA
  have HVw := hide hv
  have HT := hide (two_of (heap_alloc_new w (.cells #[.int .i64 p.lo, .int .i64 p.hi] 23)))
  unfold perV
  clear hv FA
  go_enter Try.func6, Try.ntmps6
  go_wp2_with fail
  obtain ⟨W0, hW0⟩ : ∃ W0, W0 = w.alloc (.cells #[.int .i64 p.lo, .int .i64 p.hi] 23) := ⟨_, rfl⟩
  obtain ⟨gb, hgb⟩ : ∃ gb, gb = w.heap.size := ⟨_, rfl⟩
  rw [← hW0] at HFA HT ⊢
  rw [← hgb] at HT ⊢
  have hbw : w.heap.size ≤ gb := by omega
  clear hW0 hgb
  refine (awake_any W0).mono ?_
  rintro e W1 ⟨rfl, f1⟩
  have HF1 := hide ((HFA.out.trans f1).mono (Y := fun _ => False) (by simp))
  have HT1 := hide (HT.out.fr f1 (fun h => h))
  have hg1 : gb < W1.heap.size := World.block_lt_of_cell? W1 _ HT1.out.1
  have FB := Fr.alloc W1 (.cells #[] 23) (fun _ => False)
  have HF2 := hide ((HF1.out.trans FB).mono (Y := fun _ => False) (by simp))
  have HV2 := hide (HVw.out.fr HF2.out (fun _ _ _ _ h => h))
  have HB2 := hide (own_builtP W1)
  have HT2 := hide (HT1.out.fr FB (fun h => h))
  clear f1 HFA HT FB HF1 HT1
  go_wp2_with (first
    | (refine wpList_catQ rfl (.tmp 12) (.tmp 13) rfl (.slice (some ⟨W1.heap.size, 0, none⟩) 0 0) [] rfl HB2.out a c L rfl HV2.out hac (by simp; omega) ?_; intro v3 W3 ho3 hf3 hr3; rw [List.nil_append] at ho3; have HO3 := hide ho3; have HF3 := hide hf3; have HR3 := hide hr3; clear ho3 hf3 hr3)
    | (refine wpList_pushP rfl (.tmp 14) (.tmp 16) rfl v3 L rfl HO3.out ⟨-7, 0⟩ _ rfl rfl (by omega) ?_; intro v4 W4 ho4 hf4 hr4; obtain ⟨g4, c4, hv4, hc4⟩ := ho4.some (by simp); rw [List.length_append, List.length_singleton] at hv4 hc4; subst hv4; have HO4 := hide ho4; have HF4 := hide hf4; have HR4 := hide hr4; clear ho4 hf4 hr4))
  have s3 := HF3.out.size
  have s4 := HF4.out.size
  simp only [World.size_alloc] at s3
  have hv3 : ∀ q, v3.ownBlock = some q → W1.heap.size ≤ q := HR3.out.le (by simp) (fun q hq => by simp [Value.ownBlock] at hq; omega)
  have hg4 : W1.heap.size ≤ g4 := HR4.out.le (by omega) hv3 g4 rfl
  have hg4l : g4 < W4.heap.size := (HO4.out.lt g4 rfl).2
  have hw1 : w.heap.size ≤ W1.heap.size := by have := HF2.out.size; omega
  have HFw4 := hide (((HF2.out.trans HF3.out).trans HF4.out).mono (Y := fun _ => False) (fun q hq h => by rcases h with (h | h) | h; exact h; (simp [Value.ownBlock] at h; omega); (have := hv3 q h; omega)))
  have HT4 := hide ((HT2.out.fr HF3.out (fun h => by simp [Value.ownBlock] at h; omega)).fr HF4.out (fun h => by have := hv3 gb h; omega))
  have HMI := hide (fun p => minus_any p)
  clear HF2 HV2 HB2 HT2 HO3 HF3 HR3 HF4 HR4 hv3
  refine (union_any (some ⟨g4, 0, none⟩) c4 L W4 HO4.out.part (by omega)).mono ?_
  rintro e W5 ⟨v5, U, rfl, ho5, hu5, f5, hx5⟩
  have s5 := f5.size
  have HO5 := hide ho5
  have HU5 := hide hu5
  have hlU := hu5.len
  have HX5 := hide hx5
  have HF5 := hide ((HFw4.out.trans f5).mono (Y := fun _ => False) (by simp))
  have HM5 := hide (HO4.out.fr f5 (fun _ _ h => h))
  have HT5 := hide (HT4.out.fr f5 (fun h => h))
  obtain ⟨a5, c5, hv5, _, hac5⟩ := ho5.shape
  have HX5' := HX5
  subst hv5
  have t0 := HT5.out.1
  have t1 := HT5.out.2.1
  clear ho5 hu5 f5 hx5 HFw4 HT4 HX5' HO4
  go_wp2_with fail
  refine (HMI.out p (some ⟨g4, 0, none⟩) c4 L W5 HM5.out.part (by omega)).mono ?_
  rintro e W6 ⟨v6, _, rfl, _, _, f6, _⟩
  have s6 := f6.size
  have HO6 := hide (HO5.out.fr f6 (fun _ _ h => h))
  have HF6 := hide ((HF5.out.trans f6).mono (Y := fun _ => False) (by simp))
  have HM6 := hide (HM5.out.fr f6 (fun _ _ h => h))
  clear f6 HO5 HF5 HM5 HT5 t0 t1 HMI
  go_wp2_with fail
  refine (edges_any (some ⟨g4, 0, none⟩) c4 L W6 HM6.out.part (by omega)).mono ?_
  rintro e W7 ⟨v7, _, rfl, _, _, _, f7, _⟩
  have s7 := f7.size
  have HO7 := hide (HO6.out.fr f7 (fun _ _ h => h))
  have HF7 := hide ((HF6.out.trans f7).mono (Y := fun _ => False) (by simp))
  have HM7 := hide (HM6.out.fr f7 (fun _ _ h => h))
  clear f7 HO6 HF6 HM6
  go_wp2_with fail
  refine (same_any (some ⟨g4, 0, none⟩) c4 a c L W7 HM7.out.part (HVw.out.fr HF7.out (fun _ _ _ _ h => h)) (by omega)).mono ?_
  rintro e W8 ⟨rfl, f8⟩
  have s8 := f8.size
  have HO8 := hide (HO7.out.fr f8 (fun _ _ h => h))
  have HF8 := hide ((HF7.out.trans f8).mono (Y := fun _ => False) (by simp))
  have HM8 := hide (HM7.out.fr f8 (fun _ _ h => h))
  obtain ⟨gm, om, hem, cm, _⟩ := HM8.out.pers.get (Fr.refl _ _) L.length ⟨-7, 0⟩ (by simp)
  simp only [Option.some.injEq, Addr.mk.injEq, and_true] at hem
  obtain ⟨rfl, rfl⟩ := hem
  rw [Nat.zero_add] at cm
  have FB8 := Fr.alloc W8 (.cells #[] 23) (fun _ => False)
  have HB9 := hide (own_builtP W8)
  have HO9 := hide (HO8.out.fr FB8 (fun _ _ h => h))
  have HF9 := hide ((HF8.out.trans FB8).mono (Y := fun _ => False) (by simp))
  have HM9 := hide (HM8.out.fr FB8 (fun _ _ h => h))
  have hX5l := fun q (hq : (Value.slice a5 U.length c5).ownBlock = some q) => (HO8.out.lt q hq).2
  have HX5L := hide hX5l
  clear f8 HO7 HF7 HM7 FB8 HO8 HF8 HM8 hX5l
  go_wp2_with (refine wpList_catQ rfl (.tmp 45) (.tmp 46) rfl (.slice (some ⟨W8.heap.size, 0, none⟩) 0 0) [] rfl HB9.out a5 c5 U rfl HO9.out.pers hac5 (by simp; omega) ?_; intro v10 W10 ho10 hf10 hr10; rw [List.nil_append] at ho10; have HO10 := hide ho10; have HF10 := hide hf10; have HR10 := hide hr10; clear ho10 hf10 hr10)
  have s10 := HF10.out.size
  simp only [World.size_alloc] at s10
  have hx10 : ∀ q, v10.ownBlock = some q → W8.heap.size ≤ q := HR10.out.le (by simp) (fun q hq => by simp [Value.ownBlock] at hq; omega)
  have HX10 := hide hx10
  have HF11 := hide ((HF9.out.trans HF10.out).mono (Y := fun _ => False) (fun q hq h => by rcases h with h | h; exact h; (simp [Value.ownBlock] at h; omega)))
  have HU10 := hide (HO9.out.fr HF10.out (fun q hq h => by have h1 := HX5L.out q hq; simp [Value.ownBlock] at h; omega))
  have HM10 := hide (HM9.out.fr HF10.out (fun q hq h => by simp [Value.ownBlock] at h hq; omega))
  obtain ⟨a10, c10, hv10, _, _⟩ := HO10.out.shape
  subst hv10
  clear HB9 HO9 HF9 HM9 HF10 HR10 hx10 cm
  go_loopw [50] (fun i wr => ∃ (k : Nat) (M : List Per), k ≤ L.length ∧ i = .int .i64 k ∧ M.length = L.length + 1 ∧ OwnP wr (.slice (some ⟨g4, 0, none⟩) (L.length + 1) c4) M ∧ Fr W10 wr (fun q => q = g4)) (fun i _ => L.length - (intOf i).toNat)
  case atStart => exact ⟨0, L ++ [⟨-7, 0⟩], by omega, rfl, by simp, HM10.out, Fr.refl _ _⟩
  case round =>
    rename World => W
    obtain ⟨k, M, hk, rfl, hM, hoM, hf⟩ := hrel
    have HOM := hide hoM
    have HF := hide hf
    clear hoM hf
    by_cases hlt : k < L.length
    · obtain ⟨q, hq⟩ : ∃ q, M[k]? = some q := ⟨_, List.getElem?_eq_getElem (by omega)⟩
      obtain ⟨gm, om, hem, d0, d1⟩ := HOM.out.pers.get (Fr.refl _ _) k q hq
      simp only [Option.some.injEq, Addr.mk.injEq, and_true] at hem
      obtain ⟨rfl, rfl⟩ := hem
      rw [Nat.zero_add] at d0 d1
      have z0 := HOM.out.thawed (k * 2)
      have z1 := HOM.out.thawed (k * 2 + 1)
      have HO1 := hide ((HOM.out.put0 k q hq (-9)).put1 k ⟨-9, q.hi⟩ (by rw [List.getElem?_set_self (by omega)]) 0)
      have HF1 := hide (((HF.out.trans (Fr.setCell W ⟨g4, k * 2, none⟩ (.int .i64 (-9)))).trans (Fr.setCell _ ⟨g4, k * 2 + 1, none⟩ (.int .i64 0))).mono (Y := fun q => q = g4) (fun q _ h => by rcases h with (h | h) | h <;> exact h))
      clear hq
      go_wp2
      go_roundw
      case rel => exact ⟨k + 1, _, by omega, by go_num, by simp [hM], HO1.out, HF1.out⟩
      case measure => simp [intOf]; omega
    · have HUW := hide (HU10.out.fr HF.out (fun q hq h => by have h1 := HX5.out q hq; omega))
      have HWW := hide (HO10.out.fr HF.out (fun q hq h => by have h1 := HX10.out q hq; omega))
      have HFW := hide ((HF11.out.trans HF.out).mono (Y := fun _ => False) (fun q hq h => by rcases h with h | h; exact h; omega))
      clear HU10 HO10 HF11 HM10 HOM
      go_wp2_with fail
      refine (same_any a5 c5 a10 c10 U W HUW.out.pers HWW.out.pers (by omega)).mono ?_
      rintro e V1 ⟨rfl, f1⟩
      have HU1 := hide (HUW.out.fr f1 (fun _ _ h => h))
      have HW1 := hide (HWW.out.fr f1 (fun _ _ h => h))
      have HF1 := hide ((HFW.out.trans f1).mono (Y := fun _ => False) (by simp))
      clear f1 HUW HWW HFW
      go_wp2_with fail
      go_loopw [64] (fun i wr => ∃ (k : Nat) (M : List Per), k ≤ U.length ∧ i = .int .i64 k ∧ M.length = U.length ∧ OwnP wr (.slice a5 U.length c5) M ∧ Fr V1 wr (fun q => (Value.slice a5 U.length c5).ownBlock = some q)) (fun i _ => U.length - (intOf i).toNat)
      case atStart => exact ⟨0, U, by omega, rfl, rfl, HU1.out, Fr.refl _ _⟩
      case round =>
        rename World => V
        obtain ⟨k2, M, hk2, rfl, hM, hoM, hf⟩ := hrel
        have HOM := hide hoM
        have HF2 := hide hf
        clear hoM hf
        by_cases hlt2 : k2 < U.length
        · obtain ⟨q, hq⟩ : ∃ q, M[k2]? = some q := ⟨_, List.getElem?_eq_getElem (by omega)⟩
          obtain ⟨gm, cm, hem, _⟩ := HOM.out.some (by omega)
          rw [hM] at hem
          simp only [Value.slice.injEq, true_and] at hem
          obtain ⟨rfl, rfl⟩ := hem
          obtain ⟨gm2, om, hem, d0, d1⟩ := HOM.out.pers.get (Fr.refl _ _) k2 q hq
          simp only [Option.some.injEq, Addr.mk.injEq, and_true] at hem
          obtain ⟨rfl, rfl⟩ := hem
          rw [Nat.zero_add] at d0 d1
          have z0 := HOM.out.thawed (k2 * 2)
          have z1 := HOM.out.thawed (k2 * 2 + 1)
          have HO3 := hide ((HOM.out.put0 k2 q hq (-5)).put1 k2 ⟨-5, q.hi⟩ (by rw [List.getElem?_set_self (by omega)]) 0)
          have HF3 := hide (((HF2.out.trans (Fr.setCell V ⟨gm, k2 * 2, none⟩ (.int .i64 (-5)))).trans (Fr.setCell _ ⟨gm, k2 * 2 + 1, none⟩ (.int .i64 0))).mono (Y := fun q => (Value.slice (some ⟨gm, 0, none⟩) U.length c5).ownBlock = some q) (fun q _ h => by rcases h with (h | h) | h; exact h; (simp [Value.ownBlock]; exact h.symm); (simp [Value.ownBlock]; exact h.symm)))
          clear hq
          go_wp2
          go_roundw
          case rel => exact ⟨k2 + 1, _, by omega, by go_num, by simp [hM], HO3.out, HF3.out⟩
          case measure => simp [intOf]; omega
        · have HW2 := hide (HW1.out.fr HF2.out (fun q hq h => by have h1 := HX10.out q hq; have h2 := HX5L.out q h; omega))
          have HFV := hide ((HF1.out.trans HF2.out).mono (Y := fun _ => False) (fun q hq h => by rcases h with h | h; exact h; (have := HX5.out q h; omega)))
          clear HW1 HU1 HOM
          go_wp2_with fail
          refine (union_any a c L V (HVw.out.fr HFV.out (fun _ _ _ _ h => h)) (by omega)).mono ?_
          rintro e V3 ⟨v3, O3, rfl, ho3, hu3, f3, _⟩
          obtain rfl := isUnion_unique hu3 HU5.out
          have HO3 := hide ho3
          have HW3 := hide (HW2.out.fr f3 (fun _ _ h => h))
          have HF3 := hide ((HFV.out.trans f3).mono (Y := fun _ => False) (by simp))
          obtain ⟨a3, c3, hv3, _, _⟩ := ho3.shape
          subst hv3
          clear ho3 hu3 f3
          go_wp2_with fail
          refine (same_any a3 c3 a10 c10 O3 V3 HO3.out.pers HW3.out.pers (by omega)).mono ?_
          rintro e V4 ⟨rfl, f4⟩
          have HF4 := hide ((HF3.out.trans f4).mono (Y := fun _ => False) (by simp))
          clear f4
          go_wp2
          go_ret
          exact ⟨rfl, HF4.out⟩
end Go.Proofs.Ytaikhmedehbfbaa
