/- The document's One, truth, Times, number. -/
import Derived.Test.YtbcmgodpplapaaaPa
namespace Go.Proofs.Ytbcmgodpplapaaa
open Go.RowKit
set_option maxRecDepth 100000
set_option linter.unusedVariables false
set_option linter.unusedSimpArgs false

theorem up_two {w : World} {o1 o2 : Obj} : Fr w ((w.alloc o1).alloc o2) (fun _ => False) := ((Fr.alloc _ _ (fun _ => False)).trans (Fr.alloc _ _ (fun _ => False))).mono (by simp)
set_option maxHeartbeats 4000000 in
theorem one2_any (a b : Vl) (w : World) : Calls Try.prog 38 #[a.v, b.v] w fun e w' => e = .returned (.int .i64 (oneV a b)) ∧ Fr w w' (fun _ => False) := by
  obtain ⟨k, n, s⟩ := a
  obtain ⟨k', n', s'⟩ := b
  simp only [oneV, Vl.v]
  by_cases h1 : k < k'
  · rw [if_pos h1]
    go_enter Try.func38, Try.ntmps38
    go_wp2
    go_ret
    exact ⟨rfl, up_two⟩
  · rw [if_neg h1]
    by_cases h2 : k' < k
    · rw [if_pos h2]
      have h3 : ¬ k = k' := by omega
      go_enter Try.func38, Try.ntmps38
      go_wp2
      go_ret
      exact ⟨rfl, up_two⟩
    · rw [if_neg h2]
      obtain rfl : k = k' := by omega
      clear h1 h2
      by_cases h3 : n < n'
      · rw [if_pos h3]
        go_enter Try.func38, Try.ntmps38
        go_wp2
        go_ret
        exact ⟨rfl, up_two⟩
      · rw [if_neg h3]
        by_cases h4 : n' < n
        · rw [if_pos h4]
          have h5 : ¬ n = n' := by omega
          go_enter Try.func38, Try.ntmps38
          go_wp2
          go_ret
          exact ⟨rfl, up_two⟩
        · rw [if_neg h4]
          obtain rfl : n = n' := by omega
          clear h3 h4
          by_cases h5 : Op.bytesLess s.toList s'.toList = true
          · rw [if_pos h5]
            go_enter Try.func38, Try.ntmps38
            go_wp2
            go_ret
            exact ⟨rfl, up_two⟩
          · rw [if_neg h5]
            have h6 : Op.bytesLess s.toList s'.toList = false := by simpa using h5
            clear h5
            by_cases h7 : s.toList = s'.toList
            · rw [if_pos h7]
              have h8 : (s.toList == s'.toList) = true := by simpa using h7
              clear h7
              go_enter Try.func38, Try.ntmps38
              go_wp2
              go_ret
              exact ⟨rfl, up_two⟩
            · rw [if_neg h7]
              have h8 : (s.toList == s'.toList) = false := by simpa using h7
              go_enter Try.func38, Try.ntmps38
              go_wp2
              go_ret
              exact ⟨rfl, up_two⟩
set_option maxHeartbeats 1000000 in
theorem rtruth_any (b : Bool) (w : World) : Calls Try.prog 36 #[.bool b] w fun e w' => e = .returned (truthV b).v ∧ Fr w w' (fun _ => False) := by
  cases b
  · go_enter Try.func36, Try.ntmps36
    go_wp2
    exact bodyPost_ret (results_vl Try.results36 _ _ w.heap.size (tri_of (heap_alloc_new _ _)) rfl) rfl ⟨rfl, Fr.alloc _ _ _⟩
  · go_enter Try.func36, Try.ntmps36
    go_wp2
    exact bodyPost_ret (results_vl Try.results36 _ _ w.heap.size (tri_of (heap_alloc_new _ _)) rfl) rfl ⟨rfl, Fr.alloc _ _ _⟩
theorem times_pure {a b : Int} (ha : In64 a) (hb : In64 b) (ha0 : a ≠ 0) (hb0 : b ≠ 0) : (wrap64 ((wrap64 (a * b)).tdiv b) = a ∧ (wrap64 (a * b)).tmod b = 0 ∧ ¬ (a = -1 ∧ b = -9223372036854775808) ∧ ¬ (b = -1 ∧ a = -9223372036854775808)) ↔ (-9223372036854775808 ≤ a * b ∧ a * b ≤ 9223372036854775807) := by
  obtain ⟨n, hn⟩ : ∃ n, n = wrap64 (a * b) := ⟨_, rfl⟩
  have hnb : -9223372036854775808 ≤ n ∧ n ≤ 9223372036854775807 := by rw [hn]; unfold wrap64; omega
  unfold In64 at ha hb
  rw [← hn]
  constructor
  · rintro ⟨h1, h2, h3, h4⟩
    have hd : b * n.tdiv b = n := by have := Int.mul_tdiv_add_tmod n b; omega
    obtain ⟨t, ht⟩ : ∃ t, t = n.tdiv b := ⟨_, rfl⟩
    rw [← ht] at h1 hd
    by_cases htb : -9223372036854775808 ≤ t ∧ t ≤ 9223372036854775807
    · have : wrap64 t = t := by unfold wrap64; omega
      rw [this] at h1
      rw [← h1, Int.mul_comm, hd]
      exact hnb
    · exfalso
      have htn : t.natAbs ≤ n.natAbs := by rw [ht]; exact Int.natAbs_tdiv_le_natAbs n b
      have h5 : t = 9223372036854775808 := by omega
      have h6 : n = -9223372036854775808 := by omega
      rw [h5] at h1 hd
      have h7 : a = -9223372036854775808 := by rw [← h1]; unfold wrap64; omega
      have h8 : b = -1 := by omega
      exact h4 ⟨h8, h7⟩
  · intro h
    have hn2 : n = a * b := by rw [hn]; unfold wrap64; omega
    have hq : n.tdiv b = a := by rw [hn2]; exact Int.mul_tdiv_cancel a hb0
    refine ⟨by rw [hq]; unfold wrap64; omega, by rw [hn2]; exact Int.mul_tmod_left a b, ?_, ?_⟩
    · rintro ⟨h1, h2⟩; rw [h1, h2] at h; omega
    · rintro ⟨h1, h2⟩; rw [h1, h2] at h; omega
def TimesQ (a b : Int) (w : World) (e : Ending) (w' : World) : Prop := ∃ (n : Int) (ok : Bool), e = .returned (.tuple #[.int .i64 n, .bool ok]) ∧ (ok = true ↔ (-9223372036854775808 ≤ a * b ∧ a * b ≤ 9223372036854775807)) ∧ (ok = true → n = a * b) ∧ w' = w
set_option maxHeartbeats 4000000 in
theorem times_any {a b : Int} (ha : In64 a) (hb : In64 b) (w : World) : Calls Try.prog 43 #[.int .i64 a, .int .i64 b] w (TimesQ a b w) := by
  by_cases ha0 : a = 0
  · subst ha0
    go_enter Try.func43, Try.ntmps43
    go_wp2
    go_ret2
    exact ⟨0, true, rfl, by simp, by simp, rfl⟩
  · by_cases hb0 : b = 0
    · subst hb0
      go_enter Try.func43, Try.ntmps43
      go_wp2
      go_ret2
      exact ⟨0, true, rfl, by simp, by simp, rfl⟩
    · have HP := times_pure ha hb ha0 hb0
      have ha1 : (a == 0) = false := by simpa using ha0
      have hb1 : (b == 0) = false := by simpa using hb0
      by_cases px1 : wrap64 ((wrap64 (a * b)).tdiv b) = a
      · by_cases px2 : (wrap64 (a * b)).tmod b = 0
        · by_cases pa1 : a = -1
          · by_cases pbm : b = -9223372036854775808
            · have HK : Hid (¬ (-9223372036854775808 ≤ a * b ∧ a * b ≤ 9223372036854775807)) := hide (fun h => by
                obtain ⟨h1, h2, h3, h4⟩ := HP.2 h
                first | contradiction | exact h3 ⟨by assumption, by assumption⟩ | exact h4 ⟨by assumption, by assumption⟩)
              have qx1 : (wrap64 ((wrap64 (a * b)).tdiv b) == a) = true := by simpa using px1
              have qx2 : ((wrap64 (a * b)).tmod b == 0) = true := by simpa using px2
              have qa1 : (a == -1) = true := by simpa using pa1
              have qbm : (b == -9223372036854775808) = true := by simpa using pbm
              clear HP px1 px2 pa1 pbm ha hb
              go_enter Try.func43, Try.ntmps43
              go_wp2

              go_ret2
              exact ⟨_, false, rfl, ⟨by simp, fun h => absurd h HK.out⟩, by simp, rfl⟩
            · by_cases pb1 : b = -1
              · have pam : ¬ a = -9223372036854775808 := by omega
                have HK : Hid ((-9223372036854775808 ≤ a * b ∧ a * b ≤ 9223372036854775807) ∧ wrap64 (a * b) = a * b) := hide (by
                  have h := HP.1 ⟨px1, px2, by rintro ⟨e1, e2⟩; first | contradiction | omega, by rintro ⟨e1, e2⟩; first | contradiction | omega⟩
                  exact ⟨h, by unfold wrap64; omega⟩)
                have qx1 : (wrap64 ((wrap64 (a * b)).tdiv b) == a) = true := by simpa using px1
                have qx2 : ((wrap64 (a * b)).tmod b == 0) = true := by simpa using px2
                have qa1 : (a == -1) = true := by simpa using pa1
                have qbm : (b == -9223372036854775808) = false := by simpa using pbm
                have qb1 : (b == -1) = true := by simpa using pb1
                have qam : (a == -9223372036854775808) = false := by simpa using pam
                clear HP px1 px2 pa1 pbm pb1 pam ha hb
                go_enter Try.func43, Try.ntmps43
                go_wp2
                go_ret2
                exact ⟨_, true, rfl, ⟨fun _ => HK.out.1, fun _ => rfl⟩, fun _ => HK.out.2, rfl⟩
              · have HK : Hid ((-9223372036854775808 ≤ a * b ∧ a * b ≤ 9223372036854775807) ∧ wrap64 (a * b) = a * b) := hide (by
                  have h := HP.1 ⟨px1, px2, by rintro ⟨e1, e2⟩; first | contradiction | omega, by rintro ⟨e1, e2⟩; first | contradiction | omega⟩
                  exact ⟨h, by unfold wrap64; omega⟩)
                have qx1 : (wrap64 ((wrap64 (a * b)).tdiv b) == a) = true := by simpa using px1
                have qx2 : ((wrap64 (a * b)).tmod b == 0) = true := by simpa using px2
                have qa1 : (a == -1) = true := by simpa using pa1
                have qbm : (b == -9223372036854775808) = false := by simpa using pbm
                have qb1 : (b == -1) = false := by simpa using pb1
                clear HP px1 px2 pa1 pbm pb1 ha hb
                go_enter Try.func43, Try.ntmps43
                go_wp2
                go_ret2
                exact ⟨_, true, rfl, ⟨fun _ => HK.out.1, fun _ => rfl⟩, fun _ => HK.out.2, rfl⟩
          · by_cases pb1 : b = -1
            · by_cases pam : a = -9223372036854775808
              · have HK : Hid (¬ (-9223372036854775808 ≤ a * b ∧ a * b ≤ 9223372036854775807)) := hide (fun h => by
                  obtain ⟨h1, h2, h3, h4⟩ := HP.2 h
                  first | contradiction | exact h3 ⟨by assumption, by assumption⟩ | exact h4 ⟨by assumption, by assumption⟩)
                have qx1 : (wrap64 ((wrap64 (a * b)).tdiv b) == a) = true := by simpa using px1
                have qx2 : ((wrap64 (a * b)).tmod b == 0) = true := by simpa using px2
                have qa1 : (a == -1) = false := by simpa using pa1
                have qb1 : (b == -1) = true := by simpa using pb1
                have qam : (a == -9223372036854775808) = true := by simpa using pam
                clear HP px1 px2 pa1 pb1 pam ha hb
                go_enter Try.func43, Try.ntmps43
                go_wp2
                go_ret2
                exact ⟨_, false, rfl, ⟨by simp, fun h => absurd h HK.out⟩, by simp, rfl⟩
              · have HK : Hid ((-9223372036854775808 ≤ a * b ∧ a * b ≤ 9223372036854775807) ∧ wrap64 (a * b) = a * b) := hide (by
                  have h := HP.1 ⟨px1, px2, by rintro ⟨e1, e2⟩; first | contradiction | omega, by rintro ⟨e1, e2⟩; first | contradiction | omega⟩
                  exact ⟨h, by unfold wrap64; omega⟩)
                have qx1 : (wrap64 ((wrap64 (a * b)).tdiv b) == a) = true := by simpa using px1
                have qx2 : ((wrap64 (a * b)).tmod b == 0) = true := by simpa using px2
                have qa1 : (a == -1) = false := by simpa using pa1
                have qb1 : (b == -1) = true := by simpa using pb1
                have qam : (a == -9223372036854775808) = false := by simpa using pam
                clear HP px1 px2 pa1 pb1 pam ha hb
                go_enter Try.func43, Try.ntmps43
                go_wp2
                go_ret2
                exact ⟨_, true, rfl, ⟨fun _ => HK.out.1, fun _ => rfl⟩, fun _ => HK.out.2, rfl⟩
            · have HK : Hid ((-9223372036854775808 ≤ a * b ∧ a * b ≤ 9223372036854775807) ∧ wrap64 (a * b) = a * b) := hide (by
                have h := HP.1 ⟨px1, px2, by rintro ⟨e1, e2⟩; first | contradiction | omega, by rintro ⟨e1, e2⟩; first | contradiction | omega⟩
                exact ⟨h, by unfold wrap64; omega⟩)
              have qx1 : (wrap64 ((wrap64 (a * b)).tdiv b) == a) = true := by simpa using px1
              have qx2 : ((wrap64 (a * b)).tmod b == 0) = true := by simpa using px2
              have qa1 : (a == -1) = false := by simpa using pa1
              have qb1 : (b == -1) = false := by simpa using pb1
              clear HP px1 px2 pa1 pb1 ha hb
              go_enter Try.func43, Try.ntmps43
              go_wp2
              go_ret2
              exact ⟨_, true, rfl, ⟨fun _ => HK.out.1, fun _ => rfl⟩, fun _ => HK.out.2, rfl⟩
        · have HK : Hid (¬ (-9223372036854775808 ≤ a * b ∧ a * b ≤ 9223372036854775807)) := hide (fun h => by
            obtain ⟨h1, h2, h3, h4⟩ := HP.2 h
            first | contradiction | exact h3 ⟨by assumption, by assumption⟩ | exact h4 ⟨by assumption, by assumption⟩)
          have qx1 : (wrap64 ((wrap64 (a * b)).tdiv b) == a) = true := by simpa using px1
          have qx2 : ((wrap64 (a * b)).tmod b == 0) = false := by simpa using px2
          clear HP px1 px2 ha hb
          go_enter Try.func43, Try.ntmps43
          go_wp2
          go_ret2
          exact ⟨_, false, rfl, ⟨by simp, fun h => absurd h HK.out⟩, by simp, rfl⟩
      · have HK : Hid (¬ (-9223372036854775808 ≤ a * b ∧ a * b ≤ 9223372036854775807)) := hide (fun h => by
          obtain ⟨h1, h2, h3, h4⟩ := HP.2 h
          first | contradiction | exact h3 ⟨by assumption, by assumption⟩ | exact h4 ⟨by assumption, by assumption⟩)
        have qx1 : (wrap64 ((wrap64 (a * b)).tdiv b) == a) = false := by simpa using px1
        clear HP px1 ha hb
        go_enter Try.func43, Try.ntmps43
        go_wp2
        go_ret2
        exact ⟨_, false, rfl, ⟨by simp, fun h => absurd h HK.out⟩, by simp, rfl⟩
end Go.Proofs.Ytbcmgodpplapaaa
