/- The document's Find. -/
import Derived.Test.YtbcmgodpplapaaaN
namespace Go.Proofs.Ytbcmgodpplapaaa
open Go.RowKit
set_option maxRecDepth 100000
set_option linter.unusedVariables false
set_option linter.unusedSimpArgs false

theorem findC_zero {p t : Int} {kn : Bool} (ht : 0 ≤ t) (h : findC ⟨p, t, kn⟩ = 0) : t = 1 := by
  unfold findC at h
  simp only [] at h
  by_cases h1 : t > 1
  · rw [if_pos h1] at h; omega
  · rw [if_neg h1] at h
    by_cases h2 : kn = false
    · rw [if_pos h2] at h; omega
    · rw [if_neg h2] at h
      by_cases h3 : t = 0
      · rw [if_pos h3] at h; omega
      · omega
set_option maxHeartbeats 8000000 in
theorem rfind_any {w : World} (a : Option Addr) (n c : Nat) (S : List Cl) (of_ name : ByteArray) (hS : ColsAt w a S) (hn : S.length = n) (hb : n ≤ 4611686018427387904) :
    Calls Try.prog 10 #[.slice a n c, .string of_, .string name] w fun e w' => e = .returned (.tuple #[.int .i64 (findP S of_ name).1, .int .i64 (findP S of_ name).2]) ∧ w' = w := by
  have HS := hide hS
  have HN := hide hn
  clear hS hn
  have HFP : Hid (findP S of_ name = if findC (findS S of_ name n) = 0 then ((findS S of_ name n).place, 0) else (0, findC (findS S of_ name n))) := hide (by rw [← HN.out]; rfl)
  by_cases he : of_.toList = []
  · have e := ba_of he
    subst e
    clear he
    go_enter Try.func10, Try.ntmps10
    go_wp2_with fail
    go_loopw [8, 9, 10, 11] (fun vk vt vp i wr => ∃ (k : Nat) (p q t : Int) (kn : Bool), k ≤ n ∧ vp = .int .i64 q ∧ vt = .int .i64 t ∧ vk = .bool kn ∧ i = .int .i64 (k : Int) ∧ findS S ⟨#[]⟩ name k = ⟨p, t, kn⟩ ∧ (t = 1 → q = p) ∧ wr = w) (fun _ _ _ i _ => n - (intOf i).toNat)
    case atStart => exact ⟨0, 0, 0, 0, true, Nat.zero_le _, rfl, rfl, rfl, rfl, by unfold findS; rw [ByteArray.toList_eq]; rfl, fun h => by omega, rfl⟩
    case round =>
      rename World => W
      obtain ⟨k, p, q, t, kn, hk, rfl, rfl, rfl, rfl, hst, hpq, rfl⟩ := hrel
      have HST := hide hst
      have HPQ := hide hpq
      have hbd := findS_bound S ⟨#[]⟩ name k (by rw [HN.out]; exact hk)
      rw [hst] at hbd
      simp only [] at hbd
      clear hst hpq
      rcases Nat.lt_or_ge k n with hlt | hge
      · obtain ⟨x, hx⟩ : ∃ x, S[k]? = some x := ⟨_, List.getElem?_eq_getElem (by rw [HN.out]; exact hlt)⟩
        obtain ⟨g, hag, x0, x1, x2⟩ := HS.out k x hx
        rw [hag]
        have HSU := hide (findS_succ (of_ := ⟨#[]⟩) (name := name) hx)
        rw [HST.out] at HSU
        clear hx hag
        by_cases hn : x.name.toList = name.toList
        · have hn1 : (x.name.toList == name.toList) = true := by simp [hn]
          have HX1 := hide hn
          clear hn
          by_cases ht0 : t = 0
          · subst ht0
            go_wp2
            go_roundw
            case rel => exact ⟨k + 1, k, (k : Int), 0 + 1, true, by omega, rfl, rfl, rfl, by go_num, by rw [HSU.out]; rw [if_neg (fun h => h.1 (by rw [ByteArray.toList_eq]))]; rw [if_pos HX1.out], fun _ => rfl, trivial⟩
            case measure => simp [intOf]; omega
          · have ht1' : (t == 0) = false := by simp [ht0]
            go_wp2
            go_roundw
            case rel => exact ⟨k + 1, k, q, t + 1, true, by omega, rfl, rfl, rfl, by go_num, by rw [HSU.out]; rw [if_neg (fun h => h.1 (by rw [ByteArray.toList_eq]))]; rw [if_pos HX1.out], fun h => by omega, trivial⟩
            case measure => simp [intOf]; omega
        · have hn1 : (x.name.toList == name.toList) = false := by simp [hn]
          have HX1 := hide hn
          clear hn
          go_wp2
          go_roundw
          case rel => exact ⟨k + 1, p, q, t, true, by omega, rfl, rfl, rfl, by go_num, by rw [HSU.out]; rw [if_neg (fun h => h.1 (by rw [ByteArray.toList_eq]))]; rw [if_neg HX1.out], HPQ.out, trivial⟩
          case measure => simp [intOf]; omega
      · have e1 : n = k := by omega
        subst e1
        by_cases h1 : t > 1
        · have HC : Hid (findC ⟨p, t, kn⟩ = 173) := hide (by unfold findC; rw [if_pos h1])
          go_wp2
          go_ret2
          refine ⟨?_, rfl⟩
          rw [HFP.out, HST.out, HC.out]
          rfl
        · cases kn
          · have HC : Hid (findC ⟨p, t, false⟩ = 160) := hide (by unfold findC; rw [if_neg h1]; rfl)
            go_wp2
            go_ret2
            refine ⟨?_, rfl⟩
            rw [HFP.out, HST.out, HC.out]
            rfl
          · by_cases h0 : t = 0
            · subst h0
              have HC : Hid (findC ⟨p, 0, true⟩ = 161) := hide (by rfl)
              go_wp2
              go_ret2
              refine ⟨?_, rfl⟩
              rw [HFP.out, HST.out, HC.out]
              rfl
            · have h0' : (t == 0) = false := by simp [h0]
              have HQ : Hid (q = p) := hide (HPQ.out (by omega))
              have HC : Hid (findC ⟨p, t, true⟩ = 0) := hide (by unfold findC; rw [if_neg h1]; simp [h0])
              go_wp2
              go_ret2
              refine ⟨?_, rfl⟩
              rw [HFP.out, HST.out, HC.out]
              rw [HQ.out]; rfl
  · have he1 : (of_.toList == []) = false := by simp [he]
    have he2 : of_.toList.isEmpty = false := by cases h : of_.toList with | nil => exact absurd h he | cons _ _ => rfl
    have HE := hide he
    go_enter Try.func10, Try.ntmps10
    go_wp2_with fail
    go_loopw [8, 9, 10, 11] (fun vk vt vp i wr => ∃ (k : Nat) (p q t : Int) (kn : Bool), k ≤ n ∧ vp = .int .i64 q ∧ vt = .int .i64 t ∧ vk = .bool kn ∧ i = .int .i64 (k : Int) ∧ findS S of_ name k = ⟨p, t, kn⟩ ∧ (t = 1 → q = p) ∧ wr = w) (fun _ _ _ i _ => n - (intOf i).toNat)
    case atStart => exact ⟨0, 0, 0, 0, false, Nat.zero_le _, rfl, rfl, rfl, rfl, by unfold findS; rw [decide_eq_false HE.out], fun h => by omega, rfl⟩
    case round =>
      rename World => W
      obtain ⟨k, p, q, t, kn, hk, rfl, rfl, rfl, rfl, hst, hpq, rfl⟩ := hrel
      have HST := hide hst
      have HPQ := hide hpq
      have hbd := findS_bound S of_ name k (by rw [HN.out]; exact hk)
      rw [hst] at hbd
      simp only [] at hbd
      clear hst hpq
      rcases Nat.lt_or_ge k n with hlt | hge
      · obtain ⟨x, hx⟩ : ∃ x, S[k]? = some x := ⟨_, List.getElem?_eq_getElem (by rw [HN.out]; exact hlt)⟩
        obtain ⟨g, hag, x0, x1, x2⟩ := HS.out k x hx
        rw [hag]
        have HSU := hide (findS_succ (of_ := of_) (name := name) hx)
        rw [HST.out] at HSU
        clear hx hag
        by_cases ht : x.table.toList = of_.toList
        · have ht1 : (x.table.toList == of_.toList) = true := by simp [ht]
          have HT := hide ht
          clear ht
          by_cases hn : x.name.toList = name.toList
          · have hn1 : (x.name.toList == name.toList) = true := by simp [hn]
            have HX1 := hide hn
            clear hn
            by_cases ht0 : t = 0
            · subst ht0
              go_wp2
              go_roundw
              case rel => exact ⟨k + 1, k, (k : Int), 0 + 1, true, by omega, rfl, rfl, rfl, by go_num, by rw [HSU.out]; rw [if_neg (fun h => h.2 HT.out)]; rw [if_pos HX1.out], fun _ => rfl, trivial⟩
              case measure => simp [intOf]; omega
            · have ht1' : (t == 0) = false := by simp [ht0]
              go_wp2
              go_roundw
              case rel => exact ⟨k + 1, k, q, t + 1, true, by omega, rfl, rfl, rfl, by go_num, by rw [HSU.out]; rw [if_neg (fun h => h.2 HT.out)]; rw [if_pos HX1.out], fun h => by omega, trivial⟩
              case measure => simp [intOf]; omega
          · have hn1 : (x.name.toList == name.toList) = false := by simp [hn]
            have HX1 := hide hn
            clear hn
            go_wp2
            go_roundw
            case rel => exact ⟨k + 1, p, q, t, true, by omega, rfl, rfl, rfl, by go_num, by rw [HSU.out]; rw [if_neg (fun h => h.2 HT.out)]; rw [if_neg HX1.out], HPQ.out, trivial⟩
            case measure => simp [intOf]; omega
        · have ht1 : (x.table.toList == of_.toList) = false := by simp [ht]
          have HT := hide ht
          clear ht
          go_wp2
          go_roundw
          case rel => exact ⟨k + 1, p, q, t, kn, by omega, rfl, rfl, rfl, by go_num, by rw [HSU.out]; rw [if_pos ⟨HE.out, HT.out⟩], HPQ.out, trivial⟩
          case measure => simp [intOf]; omega
      · have e1 : n = k := by omega
        subst e1
        by_cases h1 : t > 1
        · have HC : Hid (findC ⟨p, t, kn⟩ = 173) := hide (by unfold findC; rw [if_pos h1])
          go_wp2
          go_ret2
          refine ⟨?_, rfl⟩
          rw [HFP.out, HST.out, HC.out]
          rfl
        · cases kn
          · have HC : Hid (findC ⟨p, t, false⟩ = 160) := hide (by unfold findC; rw [if_neg h1]; rfl)
            go_wp2
            go_ret2
            refine ⟨?_, rfl⟩
            rw [HFP.out, HST.out, HC.out]
            rfl
          · by_cases h0 : t = 0
            · subst h0
              have HC : Hid (findC ⟨p, 0, true⟩ = 161) := hide (by rfl)
              go_wp2
              go_ret2
              refine ⟨?_, rfl⟩
              rw [HFP.out, HST.out, HC.out]
              rfl
            · have h0' : (t == 0) = false := by simp [h0]
              have HQ : Hid (q = p) := hide (HPQ.out (by omega))
              have HC : Hid (findC ⟨p, t, true⟩ = 0) := hide (by unfold findC; rw [if_neg h1]; simp [h0])
              go_wp2
              go_ret2
              refine ⟨?_, rfl⟩
              rw [HFP.out, HST.out, HC.out]
              rw [HQ.out]; rfl
end Go.Proofs.Ytbcmgodpplapaaa
