/- The document's Right. -/
import Derived.Test.YtaonhgabnbmcfaaNf
namespace Go.Proofs.Ytaonhgabnbmcfaa
open Go.RowKit
set_option maxRecDepth 100000
set_option linter.unusedVariables false
set_option linter.unusedSimpArgs false

theorem sum_le : ∀ (cs : List Nat) (B : Nat), (∀ c ∈ cs, c ≤ B) → cs.sum ≤ cs.length * B
  | [], _, _ => by simp
  | c :: cs, B, h => by
    have h1 := h c (List.mem_cons_self ..)
    have h2 := sum_le cs B (fun x hx => h x (List.mem_cons_of_mem _ hx))
    simp only [List.sum_cons, List.length_cons, Nat.add_mul]; omega
theorem sum_take_le : ∀ (cs : List Nat) (j : Nat), (cs.take j).sum ≤ cs.sum := fun cs j => by
  have h := List.take_append_drop j cs
  have h2 : cs.sum = (cs.take j).sum + (cs.drop j).sum := by rw [← List.sum_append, h]
  omega
theorem rsum_take_le (rows : List (List Nat)) (i : Nat) : rsum (rows.take i) ≤ rsum rows := by
  unfold rsum; rw [List.map_take]; exact sum_take_le _ _
theorem nsum_take {cs : List Nat} {j c : Nat} (h : cs[j]? = some c) : nsum (cs.take (j + 1)) = nsum (cs.take j) + (c + 1) ∧ (cs.take (j + 1)).sum = (cs.take j).sum + c := by
  rw [List.take_add_one, h]
  refine ⟨by simp [nsum_append, nsum], by simp⟩
theorem RowsV.fr {w w' : World} {v : Value} {rows : List (List Nat)} (h : RowsV w v rows) (hf : Fr w w' (fun _ => False)) : RowsV w' v rows := by
  obtain ⟨a, c, e, h2⟩ := h
  refine ⟨a, c, e, fun i cs hi => ?_⟩
  obtain ⟨g, a', c', e1, c1, h3⟩ := h2 i cs hi
  refine ⟨g, a', c', e1, hf.cell (fun h => h) c1, fun j x hj => ?_⟩
  obtain ⟨g', e2, c2⟩ := h3 j x hj
  exact ⟨g', e2, hf.cell (fun h => h) c2⟩
set_option maxHeartbeats 16000000 in
theorem right_any {w : World} {v : Value} {rows : List (List Nat)} {o cnt : Nat} (hR : RowsV w v rows) (hS : Shp o cnt rows) (ho : 2 ≤ o) (ho64 : o ≤ 64) (hc : cnt ≤ 2097152) : Calls Try.prog 12 #[v, .int .i64 (o : Int), .int .i64 (cnt : Int)] w fun e w' => e = .returned (.bool true) ∧ Fr w w' (fun _ => False) := by
  obtain ⟨a, vc, rfl, hrow⟩ := hR
  obtain ⟨rn, hrn⟩ : ∃ rn, rn = rows.length := ⟨_, rfl⟩
  have hr1 := hS.ne
  have hr2 := hS.rl
  rw [← hrn] at hr1 hr2
  rw [← hrn]
  have HRN := hide hrn
  have HROW := hide hrow
  have HS := hide hS
  have hr1' : 0 < (rn : Int) := by omega
  clear hrn hrow hS
  go_enter Try.func12, Try.ntmps12
  go_wp2
  go_loopw [7, 8, 9] (fun v7 v8 v9 wr => ∃ i : Nat, i ≤ rn ∧ v9 = .int .i64 (i : Int) ∧ v7 = .int .i64 ((nxt (rows.take i) : Nat) : Int) ∧ v8 = .int .i64 ((rsum (rows.take i) : Nat) : Int) ∧ Fr w wr (fun _ => False)) (fun _ _ v9 _ => rn - (intOf v9).toNat)
  case atStart => exact ⟨0, Nat.zero_le _, rfl, rfl, rfl, Fr.refl _ _⟩
  case round =>
    obtain ⟨i, hir, rfl, rfl, rfl, hf⟩ := hrel
    rename World => V
    obtain ⟨s8, hs8⟩ : ∃ s8, s8 = rsum (rows.take i) := ⟨_, rfl⟩
    have hb8 : s8 ≤ cnt := by have := rsum_take_le rows i; have := HS.out.sum; omega
    rw [← hs8]
    by_cases hlt : i < rn
    · obtain ⟨cs, hcs⟩ : ∃ cs, rows[i]? = some cs := ⟨_, List.getElem?_eq_getElem (by rw [← HRN.out]; exact hlt)⟩
      obtain ⟨h1, h2, h3⟩ := HS.out.ok i cs hcs
      obtain ⟨g, a', c', rfl, p1, hrow2⟩ := HROW.out i cs hcs
      obtain ⟨m, hm⟩ : ∃ m, m = cs.length := ⟨_, rfl⟩
      rw [← h1, ← hm]
      rw [← hm] at p1 h2
      have HP1 := hide p1
      have p1 := hf.cell (fun h => h) p1
      have HCS := hide hcs
      have HM := hide hm
      have HF := hide hf
      have H3 := hide h3
      have HROW2 := hide hrow2
      have HS8 := hide hs8
      have hmm : ((m : Int) != (m : Int)) = false := by simp
      clear hcs hm hf h1 h3 hrow2 hs8
      go_wp2_with fail
      go_loopw [7, 8, 10] (fun v7 v8 v10 wr => ∃ j : Nat, j ≤ m ∧ v10 = .int .i64 (j : Int) ∧ v7 = .int .i64 ((nsum (cs.take j) : Nat) : Int) ∧ v8 = .int .i64 (((s8 + (cs.take j).sum : Nat)) : Int) ∧ Fr w wr (fun _ => False)) (fun _ _ v10 _ => m - (intOf v10).toNat)
      case atStart => exact ⟨0, Nat.zero_le _, rfl, rfl, rfl, HF.out⟩
      case round =>
        obtain ⟨j, hjm, rfl, rfl, rfl, hf2⟩ := hrel
        rename World => U
        obtain ⟨s7, hs7⟩ : ∃ s7, s7 = nsum (cs.take j) := ⟨_, rfl⟩
        obtain ⟨s9, hs9⟩ : ∃ s9, s9 = s8 + (cs.take j).sum := ⟨_, rfl⟩
        have hcb : ∀ c ∈ cs.take j, c ≤ 127 := fun c hc => by have := (H3.out c (List.mem_of_mem_take hc)).1; omega
        have hsb := sum_le _ _ hcb
        have htl : (cs.take j).length ≤ 4194304 := by rw [List.length_take]; omega
        have hb7 : s7 ≤ 4194304 * 128 := by rw [hs7, nsum_eq]; omega
        have hb9 : s9 ≤ 4194304 * 128 + 2097152 := by omega
        rw [← hs7, ← hs9]
        have q1 := hf2.cell (fun h => h) HP1.out
        have HF2 := hide hf2
        have HS7 := hide hs7
        have HS9 := hide hs9
        clear hf2 hs7 hs9 hcb hsb htl p1
        by_cases hjlt : j < m
        · obtain ⟨c, hcj⟩ : ∃ c, cs[j]? = some c := ⟨_, List.getElem?_eq_getElem (by rw [← HM.out]; exact hjlt)⟩
          obtain ⟨k1, k2, k3⟩ := H3.out c (List.mem_of_getElem? hcj)
          obtain ⟨g', rfl, q2⟩ := HROW2.out j c hcj
          have q2 := HF2.out.cell (fun h => h) q2
          have k1' : ¬ (2 * (o : Int) - 1 < (c : Int)) := by omega
          have HREL : Hid (∃ j' : Nat, j' ≤ m ∧ (Value.int .i64 ((j : Int) + 1)) = .int .i64 (j' : Int) ∧ Value.int .i64 ((s7 : Int) + ((c : Int) + 1)) = .int .i64 ((nsum (cs.take j') : Nat) : Int) ∧ Value.int .i64 ((s9 : Int) + (c : Int)) = .int .i64 (((s8 + (cs.take j').sum : Nat)) : Int)) := hide ⟨j + 1, by omega, by rw [Int.natCast_add]; rfl, by rw [(nsum_take hcj).1, ← HS7.out]; simp, by rw [(nsum_take hcj).2, ← Nat.add_assoc, ← HS9.out]; simp⟩
          by_cases hi0 : 0 < i
          · have k2' : ¬ ((c : Int) < (o : Int) - 1) := by have := k2 hi0; omega
            have hig : 0 < (i : Int) := by omega
            have hiz : ((i : Int) == 0) = false := by simp; omega
            clear k1 k2 k3 hcj
            go_wp2_with fail
            go_roundw
            case rel => obtain ⟨j', a, b, c, d⟩ := HREL.out; exact ⟨j', a, by first | exact b | (rw [← b]), by first | exact c | (rw [← c]), by first | exact d | (rw [← d]), HF2.out⟩
            case measure => simp [intOf]; omega
          · have hiz : i = 0 := by omega
            subst hiz
            by_cases hn1 : 1 < rn
            · have k3' : ¬ ((c : Int) < 1) := by have := k3 rfl (by rw [← HRN.out]; exact hn1); omega
              clear k1 k2 k3 hcj
              go_wp2_with fail
              go_roundw
              case rel => obtain ⟨j', a, b, c, d⟩ := HREL.out; exact ⟨j', a, by first | exact b | (rw [← b]), by first | exact c | (rw [← c]), by first | exact d | (rw [← d]), HF2.out⟩
              case measure => simp [intOf]; omega
            · have hn2 : ¬ (1 < (rn : Int)) := by omega
              clear k1 k2 k3 hcj
              by_cases hc1 : (c : Int) < 1
              · go_wp2_with fail
                go_roundw
                case rel => obtain ⟨j', a, b, c, d⟩ := HREL.out; exact ⟨j', a, by first | exact b | (rw [← b]), by first | exact c | (rw [← c]), by first | exact d | (rw [← d]), HF2.out⟩
                case measure => simp [intOf]; omega
              · go_wp2_with fail
                go_roundw
                case rel => obtain ⟨j', a, b, c, d⟩ := HREL.out; exact ⟨j', a, by first | exact b | (rw [← b]), by first | exact c | (rw [← c]), by first | exact d | (rw [← d]), HF2.out⟩
                case measure => simp [intOf]; omega
        · have hge : ¬ ((j : Int) < (m : Int)) := by omega
          have hall : cs.take j = cs := List.take_of_length_le (by rw [← HM.out]; omega)
          have HREL : Hid (∃ i' : Nat, i' ≤ rn ∧ (Value.int .i64 ((i : Int) + 1)) = .int .i64 (i' : Int) ∧ Value.int .i64 (s7 : Int) = .int .i64 ((nxt (rows.take i') : Nat) : Int) ∧ Value.int .i64 (s9 : Int) = .int .i64 ((rsum (rows.take i') : Nat) : Int)) := hide ⟨i + 1, by omega, by rw [Int.natCast_add]; rfl, by rw [List.take_add_one, HCS.out, Option.toList_some, nxt_snoc, HS7.out, hall], by rw [List.take_add_one, HCS.out, Option.toList_some, rsum_snoc, HS9.out, HS8.out, hall]⟩
          clear hall
          go_wp2_with fail
          go_roundw
          case rel => obtain ⟨j', a, b, c, d⟩ := HREL.out; exact ⟨j', a, by first | exact b | (rw [← b]), by first | exact c | (rw [← c]), by first | exact d | (rw [← d]), HF2.out⟩
          case measure => simp [intOf]; omega
    · have hge : ¬ ((i : Int) < (rn : Int)) := by omega
      have hall : rows.take i = rows := List.take_of_length_le (by rw [← HRN.out]; omega)
      have h8 : s8 = cnt := by rw [hs8, hall]; exact HS.out.sum
      have HF := hide hf
      clear hs8 hall hf
      subst h8
      have h88 : ((s8 : Int) == (s8 : Int)) = true := by simp
      go_wp2_with fail
      go_ret
      exact ⟨rfl, HF.out⟩
end Go.Proofs.Ytaonhgabnbmcfaa
