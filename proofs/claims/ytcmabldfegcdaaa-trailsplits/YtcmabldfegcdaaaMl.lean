/- state: how often a transaction is told. -/
import Derived.Test.YtcmabldfegcdaaaMj
namespace Go.Proofs.Ytcmabldfegcdaaa
open Go.RowKit
set_option maxRecDepth 100000
set_option linter.unusedVariables false
set_option linter.unusedSimpArgs false

def cntC (C : List Stp) (t : Int) : Nat := C.countP (fun x => decide (x.txn = t))
def cntZ (Z : List Int) (t : Int) : Nat := Z.countP (fun x => decide (x = t))
theorem cntC_take {C : List Stp} {t : Int} {j : Nat} {x : Stp} (h : C[j]? = some x) : cntC (C.take (j + 1)) t = cntC (C.take j) t + if x.txn = t then 1 else 0 := by
  unfold cntC
  rw [List.take_add_one, h, List.countP_append]
  simp
theorem cntZ_take {Z : List Int} {t : Int} {j : Nat} {x : Int} (h : Z[j]? = some x) : cntZ (Z.take (j + 1)) t = cntZ (Z.take j) t + if x = t then 1 else 0 := by
  unfold cntZ
  rw [List.take_add_one, h, List.countP_append]
  simp
theorem cntC_le (C : List Stp) (t : Int) (j : Nat) : cntC (C.take j) t ≤ j := by
  have h1 := List.countP_le_length (p := fun x : Stp => decide (x.txn = t)) (l := C.take j)
  rw [List.length_take] at h1
  unfold cntC
  omega
theorem cntZ_le (C : List Int) (t : Int) (j : Nat) : cntZ (C.take j) t ≤ j := by
  have h1 := List.countP_le_length (p := fun x : Int => decide (x = t)) (l := C.take j)
  rw [List.length_take] at h1
  unfold cntZ
  omega

set_option maxHeartbeats 4000000 in
theorem state_any {w : World} (a1 a2 a3 : Option Addr) (c1 c2 c3 p1 p2 p3 : Nat) (m t : Int) (C : List Stp) (Z : List Int) (hC : OwnC w (.slice a1 p1 c1) C) (hZ : OwnI w (.slice a2 p2 c2) Z) (hp1 : C.length = p1) (hp2 : Z.length = p2) :
    Calls Try.prog 13 #[.agg #[.slice a1 p1 c1, .slice a2 p2 c2, .slice a3 p3 c3, .int .i64 m], .int .i64 t] w fun e w' => e = .returned (.tuple #[.int .i64 (cntC C t : Int), .int .i64 (cntZ Z t : Int)]) ∧ Fr w w' (fun _ => False) := by
  have hb1 : p1 ≤ 9223372036854775807 := by have := own_max hC; omega
  have hb2 : p2 ≤ 9223372036854775807 := by have := own_max hZ; omega
  have FA := Fr.alloc w (.cells #[.slice a1 p1 c1, .slice a2 p2 c2, .slice a3 p3 c3, .int .i64 m] 27) (fun _ => False)
  have HC := hide (hC.fr FA (fun _ _ h => h))
  have HZ := hide (hZ.fr FA (fun _ _ h => h))
  have H4 := hide (four_of (heap_alloc_new w (.cells #[.slice a1 p1 c1, .slice a2 p2 c2, .slice a3 p3 c3, .int .i64 m] 27)))
  have HF := hide FA
  have HP1 := hide hp1
  have HP2 := hide hp2
  clear FA hC hZ hp1 hp2
  go_enter Try.func13, Try.ntmps13
  go_wp2_with fail
  generalize w.alloc (.cells #[.slice a1 p1 c1, .slice a2 p2 c2, .slice a3 p3 c3, .int .i64 m] 27) = W at *
  obtain ⟨b, hb⟩ : ∃ b, b = w.heap.size := ⟨_, rfl⟩
  rw [← hb] at H4 ⊢
  clear hb
  go_loopw [6, 15] (fun d i wr => ∃ j : Nat, j ≤ p1 ∧ i = .int .i64 (j : Int) ∧ d = .int .i64 (cntC (C.take j) t : Int) ∧ Fr W wr (fun _ => False)) (fun _ i _ => p1 - (intOf i).toNat)
  case atStart => exact ⟨0, Nat.zero_le _, rfl, rfl, Fr.refl _ _⟩
  case round =>
    obtain ⟨j, hj, rfl, rfl, hfr⟩ := hrel
    have HFr := hide hfr
    have H4r := hide (H4.out.fr hfr (fun h => h))
    clear hfr
    have hcl := cntC_le C t j
    rcases Nat.lt_or_ge j p1 with hlt | hge
    · obtain ⟨x, hx⟩ : ∃ x, C[j]? = some x := ⟨_, List.getElem?_eq_getElem (by rw [HP1.out]; exact hlt)⟩
      obtain ⟨ga, hga, y0, y1⟩ := (HC.out.fr HFr.out (fun _ _ h => h)).cell HP1.out hx
      have hct := cntC_take (t := t) hx
      have FB := Fr.alloc wr (.cells #[.int .i64 x.txn, .int .i64 x.stamp] 33) (fun _ => False)
      have HF7 := hide ((HFr.out.trans FB).mono (Y := fun _ => False) (by intro k _ h; simp at h))
      rw [hga]
      clear hx hga FB
      by_cases he : x.txn = t
      · rw [if_pos he] at hct
        rw [he] at HF7
        obtain ⟨K1, hK1⟩ : ∃ K1, cntC (C.take (j + 1)) t = K1 := ⟨_, rfl⟩
        rw [hK1] at hct
        have HK1 := hide hK1
        clear hK1
        generalize cntC (C.take j) t = K0 at *
        go_wp2
        go_roundw
        case rel => exact ⟨j + 1, by omega, by go_num, by rw [HK1.out]; go_num, HF7.out⟩
        case measure => simp [intOf]; omega
      · rw [if_neg he] at hct
        obtain ⟨K1, hK1⟩ : ∃ K1, cntC (C.take (j + 1)) t = K1 := ⟨_, rfl⟩
        rw [hK1] at hct
        have HK1 := hide hK1
        clear hK1
        generalize cntC (C.take j) t = K0 at *
        go_wp2
        go_roundw
        case rel => exact ⟨j + 1, by omega, by go_num, by rw [HK1.out]; go_num, HF7.out⟩
        case measure => simp [intOf]; omega
    · have e1 : j = p1 := by omega
      subst e1
      rw [List.take_of_length_le (by rw [HP1.out]; exact Nat.le_refl _)] at *
      have v1 := H4r.out.c1
      go_wp2_with fail
      clear v1
      go_loopw [7, 29] (fun d i wr => ∃ j : Nat, j ≤ p2 ∧ i = .int .i64 (j : Int) ∧ d = .int .i64 (cntZ (Z.take j) t : Int) ∧ Fr W wr (fun _ => False)) (fun _ i _ => p2 - (intOf i).toNat)
      case atStart => exact ⟨0, Nat.zero_le _, rfl, rfl, HFr.out⟩
      case round =>
        clear HFr H4r
        obtain ⟨i, hi, rfl, rfl, hfr⟩ := hrel
        have HFr := hide hfr
        clear hfr
        have hcz := cntZ_le Z t i
        rcases Nat.lt_or_ge i p2 with hlt | hge2
        · obtain ⟨x, hx⟩ : ∃ x, Z[i]? = some x := ⟨_, List.getElem?_eq_getElem (by rw [HP2.out]; exact hlt)⟩
          obtain ⟨ga, hga, y0⟩ := (HZ.out.fr HFr.out (fun _ _ h => h)).cell HP2.out hx
          have hct := cntZ_take (t := t) hx
          rw [hga]
          clear hx hga
          by_cases he : x = t
          · rw [if_pos he] at hct
            obtain ⟨K1, hK1⟩ : ∃ K1, cntZ (Z.take (i + 1)) t = K1 := ⟨_, rfl⟩
            rw [hK1] at hct
            have HK1 := hide hK1
            clear hK1
            generalize cntZ (Z.take i) t = K0 at *
            go_wp2
            go_roundw
            case rel => exact ⟨i + 1, by omega, by go_num, by rw [HK1.out]; go_num, HFr.out⟩
            case measure => simp [intOf]; omega
          · rw [if_neg he] at hct
            obtain ⟨K1, hK1⟩ : ∃ K1, cntZ (Z.take (i + 1)) t = K1 := ⟨_, rfl⟩
            rw [hK1] at hct
            have HK1 := hide hK1
            clear hK1
            generalize cntZ (Z.take i) t = K0 at *
            go_wp2
            go_roundw
            case rel => exact ⟨i + 1, by omega, by go_num, by rw [HK1.out]; go_num, HFr.out⟩
            case measure => simp [intOf]; omega
        · have e2 : i = p2 := by omega
          subst e2
          rw [List.take_of_length_le (by rw [HP2.out]; exact Nat.le_refl _)] at *
          go_wp2
          go_ret2
          exact ⟨rfl, (HF.out.trans HFr.out).mono (by intro k _ h; simp at h)⟩
end Go.Proofs.Ytcmabldfegcdaaa
