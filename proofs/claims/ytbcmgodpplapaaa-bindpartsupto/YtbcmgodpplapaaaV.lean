/- Values compared; what operators make of two values. -/
import Derived.Test.YtbcmgodpplapaaaU
namespace Go.Proofs.Ytbcmgodpplapaaa
open Go.RowKit
set_option maxRecDepth 100000
set_option linter.unusedVariables false
set_option linter.unusedSimpArgs false

def cmpP (a b : Vl) : Int := if Lib.compareInt a.num b.num = 0 then Lib.compareBytes a.text.data.toList b.text.data.toList else Lib.compareInt a.num b.num
abbrev vlB (x : Vl) : Obj := .cells #[.int .i64 x.kind, .int .i64 x.num, .string x.text] 50
set_option maxHeartbeats 4000000 in
theorem compare_any (a b : Vl) (w : World) : Calls Try.prog 49 #[a.v, b.v] w fun e w' => e = .returned (.int .i64 (cmpP a b)) ∧ Fr w w' (fun _ => False) := by
  unfold cmpP
  obtain ⟨c1, hc1⟩ : ∃ c, Lib.compareInt a.num b.num = c := ⟨_, rfl⟩
  obtain ⟨c2, hc2⟩ : ∃ c, Lib.compareBytes a.text.data.toList b.text.data.toList = c := ⟨_, rfl⟩
  have HC1 : Hid (∀ W, Calls Try.prog 54 #[.int .i64 a.num, .int .i64 b.num] W fun e w' => e = .returned (.int .i64 c1) ∧ w' = W) := hide (fun W => by have := Try.cmp_Compare_int a.num b.num W; rw [hc1] at this; exact this)
  have HC2 : Hid (∀ W, Calls Try.prog 55 #[.string a.text, .string b.text] W fun e w' => e = .returned (.int .i64 c2) ∧ w' = W) := hide (fun W => by have := Try.strings_Compare a.text b.text W; rw [hc2] at this; exact this)
  rw [hc1, hc2]
  obtain ⟨z, hz⟩ : ∃ z, (if c1 = 0 then c2 else c1) = z := ⟨_, rfl⟩
  rw [hz]
  have HOR : Hid (∀ g W, W.cell? ⟨g, 0, none⟩ = some (.int .i64 c1) → W.cell? ⟨g, 1, none⟩ = some (.int .i64 c2) → Calls Try.prog 53 #[.slice (some ⟨g, 0, none⟩) 2 2] W fun e w' => e = .returned (.int .i64 z) ∧ w' = W) := hide (fun g W h0 h1 => by have := or_any g 2 c1 c2 W h0 h1; rw [hz] at this; exact this)
  clear hc1 hc2 hz
  have HF := hide ((Fr.alloc w (vlB a) (fun _ => False)).two (Fr.alloc (w.alloc (vlB a)) (vlB b) (fun _ => False)))
  have HA := hide ((tri_of (heap_alloc_new w (vlB a))).fr (Fr.alloc (w.alloc (vlB a)) (vlB b) (fun _ => False)) (fun h => h))
  have HB : Hid (Tri ((w.alloc (vlB a)).alloc (vlB b)) (w.heap.size + 1) (.int .i64 b.kind) (.int .i64 b.num) (.string b.text)) := hide (by have h := tri_of (heap_alloc_new (w.alloc (vlB a)) (vlB b)); rw [show (w.alloc (vlB a)).heap.size = w.heap.size + 1 by simp] at h; exact h)
  go_enter Try.func49, Try.ntmps49
  go_wp2_with fail
  generalize (w.alloc (vlB a)).alloc (vlB b) = W1 at *
  obtain ⟨ab, hab⟩ : ∃ ab, ab = w.heap.size := ⟨_, rfl⟩
  obtain ⟨bb, hbb⟩ : ∃ bb, bb = w.heap.size + 1 := ⟨_, rfl⟩
  rw [← hab] at HA
  rw [← hbb] at HB
  rw [← hbb, ← hab]
  clear hab hbb
  refine wp_region_K (fun _ => true) (fun V : World => V.cell? ⟨ab, 1, none⟩ = some (.int .i64 a.num) ∧ V.cell? ⟨bb, 1, none⟩ = some (.int .i64 b.num) ∧ V.cell? ⟨ab, 2, none⟩ = some (.string a.text) ∧ V.cell? ⟨bb, 2, none⟩ = some (.string b.text)) (by kernel_rfl) ?_
  have FD := Fr.drew W1 (fun _ => False)
  have HAd := hide (HA.out.fr FD (fun h => h))
  have HBd := hide (HB.out.fr FD (fun h => h))
  have HFd := hide (HF.out.two FD)
  clear FD HA HB HF
  generalize W1.drew = V at *
  have hS : (fun V : World => V.cell? ⟨ab, 1, none⟩ = some (.int .i64 a.num) ∧ V.cell? ⟨bb, 1, none⟩ = some (.int .i64 b.num) ∧ V.cell? ⟨ab, 2, none⟩ = some (.string a.text) ∧ V.cell? ⟨bb, 2, none⟩ = some (.string b.text)) V := ⟨HAd.out.c1, HBd.out.c1, HAd.out.c2, HBd.out.c2⟩
  refine wpAnyK_takeTo 0 (some 5) (.pointer (some ⟨ab, 1, none⟩)) [] rfl rfl (by kernel_rfl) (by kernel_rfl) (by kernel_rfl) (by kernel_rfl) (fun _ _ _ h => h) hS (Or.inl ⟨rfl, fun w1 hw1 => by go_simp⟩) ?_
  simp only [Act.put, List.setIfInBounds_toArray, List.set_cons_zero, List.set_cons_succ]
  refine wpAnyK_takeTo 1 (some 6) (.int .i64 a.num) [] rfl rfl (by kernel_rfl) (by kernel_rfl) (by kernel_rfl) (by kernel_rfl) (fun _ _ _ h => h) hS (Or.inl ⟨rfl, fun w1 hw1 => by obtain ⟨h1, h2, h3, h4⟩ := hw1; go_simp⟩) ?_
  simp only [Act.put, List.setIfInBounds_toArray, List.set_cons_zero, List.set_cons_succ]
  refine wpAnyK_takeTo 2 (some 7) (.pointer (some ⟨bb, 1, none⟩)) [] rfl rfl (by kernel_rfl) (by kernel_rfl) (by kernel_rfl) (by kernel_rfl) (fun _ _ _ h => h) hS (Or.inl ⟨rfl, fun w1 hw1 => by go_simp⟩) ?_
  simp only [Act.put, List.setIfInBounds_toArray, List.set_cons_zero, List.set_cons_succ]
  refine wpAnyK_takeTo 3 (some 8) (.int .i64 b.num) [] rfl rfl (by kernel_rfl) (by kernel_rfl) (by kernel_rfl) (by kernel_rfl) (fun _ _ _ h => h) hS (Or.inl ⟨rfl, fun w1 hw1 => by obtain ⟨h1, h2, h3, h4⟩ := hw1; go_simp⟩) ?_
  simp only [Act.put, List.setIfInBounds_toArray, List.set_cons_zero, List.set_cons_succ]
  refine wpAnyK_takeTo 5 (some 10) (.pointer (some ⟨ab, 2, none⟩)) [] rfl rfl (by kernel_rfl) (by kernel_rfl) (by kernel_rfl) (by kernel_rfl) (fun _ _ _ h => h) hS (Or.inl ⟨rfl, fun w1 hw1 => by go_simp⟩) ?_
  simp only [Act.put, List.setIfInBounds_toArray, List.set_cons_zero, List.set_cons_succ]
  refine wpAnyK_takeTo 6 (some 11) (.string a.text) [] rfl rfl (by kernel_rfl) (by kernel_rfl) (by kernel_rfl) (by kernel_rfl) (fun _ _ _ h => h) hS (Or.inl ⟨rfl, fun w1 hw1 => by obtain ⟨h1, h2, h3, h4⟩ := hw1; go_simp⟩) ?_
  simp only [Act.put, List.setIfInBounds_toArray, List.set_cons_zero, List.set_cons_succ]
  refine wpAnyK_takeTo 7 (some 12) (.pointer (some ⟨bb, 2, none⟩)) [] rfl rfl (by kernel_rfl) (by kernel_rfl) (by kernel_rfl) (by kernel_rfl) (fun _ _ _ h => h) hS (Or.inl ⟨rfl, fun w1 hw1 => by go_simp⟩) ?_
  simp only [Act.put, List.setIfInBounds_toArray, List.set_cons_zero, List.set_cons_succ]
  refine wpAnyK_takeTo 8 (some 13) (.string b.text) [] rfl rfl (by kernel_rfl) (by kernel_rfl) (by kernel_rfl) (by kernel_rfl) (fun _ _ _ h => h) hS (Or.inl ⟨rfl, fun w1 hw1 => by obtain ⟨h1, h2, h3, h4⟩ := hw1; go_simp⟩) ?_
  simp only [Act.put, List.setIfInBounds_toArray, List.set_cons_zero, List.set_cons_succ]
  refine wpAnyK_one (i := 4) (by kernel_rfl) rfl rfl ?_
  refine wp_call_to (some 9) rfl 54 #[.int .i64 a.num, .int .i64 b.num] (by go_simp) (HC1.out V) ?_
  rintro e w' ⟨rfl, hw⟩
  rw [hw]
  refine ⟨_, rfl, fun _ => hS, ?_⟩
  simp only [Act.put, List.setIfInBounds_toArray, List.set_cons_zero, List.set_cons_succ]
  clear hw
  refine wpAnyK_one (i := 9) (by kernel_rfl) rfl rfl ?_
  refine wp_call_to (some 14) rfl 55 #[.string a.text, .string b.text] (by go_simp) (HC2.out V) ?_
  rintro e w' ⟨rfl, hw⟩
  rw [hw]
  refine ⟨_, rfl, fun _ => hS, ?_⟩
  simp only [Act.put, List.setIfInBounds_toArray, List.set_cons_zero, List.set_cons_succ]
  clear hw hS
  refine wpAnyK_one (i := 10) (by kernel_rfl) rfl rfl ?_
  go_simp
  have FA := Fr.alloc V (.cells #[.int .i64 c1, .int .i64 c2] 3) (fun _ => False)
  have HAe := hide (HAd.out.fr FA (fun h => h))
  have HBe := hide (HBd.out.fr FA (fun h => h))
  have HFe := hide (HFd.out.two FA)
  have HG : Hid ((V.alloc (.cells #[.int .i64 c1, .int .i64 c2] 3)).rangeAt V.heap.size 0 [.int .i64 c1, .int .i64 c2]) := hide (fun i u hu => by rw [cell_of_row _ _ _ _ _ _ (heap_alloc_new V _), Nat.zero_add]; simpa using hu)
  refine ⟨⟨HAe.out.c1, HBe.out.c1, HAe.out.c2, HBe.out.c2⟩, ?_⟩
  clear FA HAd HBd HFd
  generalize V.alloc (.cells #[.int .i64 c1, .int .i64 c2] 3) = V2 at *
  obtain ⟨gb, hgb⟩ : ∃ gb, gb = V.heap.size := ⟨_, rfl⟩
  rw [← hgb] at HG
  rw [← hgb]
  clear hgb
  refine wpAnyK_one (i := 11) (by kernel_rfl) rfl rfl ?_
  refine wp_call_to (some 16) rfl 53 #[.slice (some ⟨gb, 0, none⟩) 2 2] (by go_simp) (HOR.out gb V2 (HG.out 0 _ rfl) (HG.out 1 _ rfl)) ?_
  rintro e w' ⟨rfl, hw⟩
  rw [hw]
  refine ⟨_, rfl, fun _ => ⟨HAe.out.c1, HBe.out.c1, HAe.out.c2, HBe.out.c2⟩, ?_⟩
  simp only [Act.put, List.setIfInBounds_toArray, List.set_cons_zero, List.set_cons_succ]
  clear hw
  refine wpAnyK_one (i := 12) (by kernel_rfl) rfl rfl ?_
  go_simp
  refine ⟨⟨HAe.out.c1, HBe.out.c1, HAe.out.c2, HBe.out.c2⟩, ?_⟩
  refine wpAnyK_done (by kernel_rfl) ?_ _
  go_wp2
  go_ret
  exact ⟨rfl, HFe.out⟩

def standsP (op : List UInt8) (o : Int) : Bool := if op = [61] then decide (o = 0) else if op = [60, 62] then decide (o ≠ 0) else if op = [60, 61] then decide (o ≤ 0) else if op = [62, 61] then decide (0 ≤ o) else if op = [60] then decide (o < 0) else decide (0 < o)
set_option maxHeartbeats 4000000 in
theorem stands_any (op : ByteArray) (o : Int) (w : World) : Calls Try.prog 48 #[.string op, .int .i64 o] w fun e w' => e = .returned (.bool (standsP op.toList o)) ∧ w' = w := by
  by_cases h0 : op.toList = [61]
  · have e := ba_of h0
    subst e
    clear h0
    have HS : Hid (standsP (⟨#[61]⟩ : ByteArray).toList o = decide (o = 0)) := hide (by rw [ByteArray.toList_eq]; rfl)
    rw [HS.out]
    clear HS
    by_cases hq : o = 0
    · rw [decide_eq_true hq]
      subst hq
      go_enter Try.func48, Try.ntmps48
      go_wp2
      go_ret
      exact ⟨rfl, rfl⟩
    · rw [decide_eq_false hq]
      have hq1 : (o == 0) = false := by simp [hq]
      go_enter Try.func48, Try.ntmps48
      go_wp2
      go_ret
      exact ⟨rfl, rfl⟩
  · by_cases h1 : op.toList = [60, 62]
    · have e := ba_of h1
      subst e
      clear h0 h1
      have HS : Hid (standsP (⟨#[60, 62]⟩ : ByteArray).toList o = decide (o ≠ 0)) := hide (by rw [ByteArray.toList_eq]; rfl)
      rw [HS.out]
      clear HS
      by_cases hq : o ≠ 0
      · rw [decide_eq_true hq]
        have hq1 : (o == 0) = false := by simp [hq]
        have hq2 : (o != 0) = true := by simp [hq]
        go_enter Try.func48, Try.ntmps48
        go_wp2
        go_ret
        exact ⟨rfl, rfl⟩
      · rw [decide_eq_false hq]
        have hq3 : o = 0 := by omega
        subst hq3
        go_enter Try.func48, Try.ntmps48
        go_wp2
        go_ret
        exact ⟨rfl, rfl⟩
    · by_cases h2 : op.toList = [60, 61]
      · have e := ba_of h2
        subst e
        clear h0 h1 h2
        have HS : Hid (standsP (⟨#[60, 61]⟩ : ByteArray).toList o = decide (o ≤ 0)) := hide (by rw [ByteArray.toList_eq]; rfl)
        rw [HS.out]
        clear HS
        by_cases hq : o ≤ 0
        · rw [decide_eq_true hq]
          go_enter Try.func48, Try.ntmps48
          go_wp2
          go_ret
          exact ⟨rfl, rfl⟩
        · rw [decide_eq_false hq]
          go_enter Try.func48, Try.ntmps48
          go_wp2
          go_ret
          exact ⟨rfl, rfl⟩
      · by_cases h3 : op.toList = [62, 61]
        · have e := ba_of h3
          subst e
          clear h0 h1 h2 h3
          have HS : Hid (standsP (⟨#[62, 61]⟩ : ByteArray).toList o = decide (0 ≤ o)) := hide (by rw [ByteArray.toList_eq]; rfl)
          rw [HS.out]
          clear HS
          by_cases hq : 0 ≤ o
          · rw [decide_eq_true hq]
            go_enter Try.func48, Try.ntmps48
            go_wp2
            go_ret
            exact ⟨rfl, rfl⟩
          · rw [decide_eq_false hq]
            go_enter Try.func48, Try.ntmps48
            go_wp2
            go_ret
            exact ⟨rfl, rfl⟩
        · by_cases h4 : op.toList = [60]
          · have e := ba_of h4
            subst e
            clear h0 h1 h2 h3 h4
            have HS : Hid (standsP (⟨#[60]⟩ : ByteArray).toList o = decide (o < 0)) := hide (by rw [ByteArray.toList_eq]; rfl)
            rw [HS.out]
            clear HS
            by_cases hq : o < 0
            · rw [decide_eq_true hq]
              go_enter Try.func48, Try.ntmps48
              go_wp2
              go_ret
              exact ⟨rfl, rfl⟩
            · rw [decide_eq_false hq]
              go_enter Try.func48, Try.ntmps48
              go_wp2
              go_ret
              exact ⟨rfl, rfl⟩
          · have HS : Hid (standsP op.toList o = decide (0 < o)) := hide (by unfold standsP; rw [if_neg h0, if_neg h1, if_neg h2, if_neg h3, if_neg h4])
            have b0 : (op.toList == [61]) = false := by simp [h0]
            have b1 : (op.toList == [60, 62]) = false := by simp [h1]
            have b2 : (op.toList == [60, 61]) = false := by simp [h2]
            have b3 : (op.toList == [62, 61]) = false := by simp [h3]
            have b4 : (op.toList == [60]) = false := by simp [h4]
            clear h0 h1 h2 h3 h4
            rw [HS.out]
            by_cases hq : 0 < o
            · rw [decide_eq_true hq]
              go_enter Try.func48, Try.ntmps48
              go_wp2
              go_ret
              exact ⟨rfl, rfl⟩
            · rw [decide_eq_false hq]
              go_enter Try.func48, Try.ntmps48
              go_wp2
              go_ret
              exact ⟨rfl, rfl⟩

def numV (o : Option Int) : Except Int Vl := match o with
  | some n => .ok ⟨1, n, ⟨#[]⟩⟩
  | none => .error 171
/-- What operators make of two values. -/
def appP : Ap := fun op a b => if op.toList = [79, 82] then .ok (truthV (isT a || isT b)) else if op.toList = [65, 78, 68] then .ok (truthV (isT a && isT b)) else if op.toList = [78, 79, 84] then .ok (truthV (decide (a.num = 0)))
  else if op.toList = [43] then numV (sumP a.num b.num) else if op.toList = [45] then numV (diffP a.num b.num) else if op.toList = [42] then numV (mulP a.num b.num) else .ok (truthV (standsP op.toList (cmpP a b)))
set_option maxHeartbeats 8000000 in
theorem applied_any (op : ByteArray) (a b : Vl) (w : World) : Calls Try.prog 40 #[.string op, a.v, b.v] w fun e w' => VlPost (appP op a b) e ∧ Fr w w' (fun _ => False) := by
  have HF := hide (((Fr.alloc w (vlB a) (fun _ => False)).two (Fr.alloc _ (vlB b) (fun _ => False))).two (Fr.alloc _ zObj (fun _ => False)))
  have HA := hide (((tri_of (heap_alloc_new w (vlB a))).fr (Fr.alloc (w.alloc (vlB a)) (vlB b) (fun _ => False)) (fun h => h)).fr (Fr.alloc ((w.alloc (vlB a)).alloc (vlB b)) zObj (fun _ => False)) (fun h => h))
  have HB : Hid (Tri (((w.alloc (vlB a)).alloc (vlB b)).alloc zObj) (w.heap.size + 1) (.int .i64 b.kind) (.int .i64 b.num) (.string b.text)) := hide (by have h := (tri_of (heap_alloc_new (w.alloc (vlB a)) (vlB b))).fr (Fr.alloc ((w.alloc (vlB a)).alloc (vlB b)) zObj (fun _ => False)) (fun h => h); rw [show (w.alloc (vlB a)).heap.size = w.heap.size + 1 by simp] at h; exact h)
  have HV : Hid (Tri (((w.alloc (vlB a)).alloc (vlB b)).alloc zObj) (w.heap.size + 2) (.int .i64 0) (.int .i64 0) (.string ⟨#[]⟩)) := hide (by have h := tri_of (heap_alloc_new ((w.alloc (vlB a)).alloc (vlB b)) zObj); rw [show ((w.alloc (vlB a)).alloc (vlB b)).heap.size = w.heap.size + 2 by simp] at h; exact h)
  by_cases h0 : op.toList = [79, 82]
  · have e := ba_of h0
    subst e
    clear h0
    have HP : Hid (appP ⟨#[79, 82]⟩ a b = .ok (truthV (isT a || isT b))) := hide (by unfold appP; rw [ByteArray.toList_eq]; rfl)
    go_enter Try.func40, Try.ntmps40
    go_wp2_with fail
    generalize ((w.alloc (vlB a)).alloc (vlB b)).alloc zObj = W1 at *
    obtain ⟨ab, hab⟩ : ∃ ab, ab = w.heap.size := ⟨_, rfl⟩
    obtain ⟨bb, hbb⟩ : ∃ bb, bb = w.heap.size + 1 := ⟨_, rfl⟩
    obtain ⟨vb, hvb⟩ : ∃ vb, vb = w.heap.size + 2 := ⟨_, rfl⟩
    have hvb2 : w.heap.size + 1 + 1 = vb := by omega
    rw [← hab] at HA
    rw [← hbb] at HB
    rw [← hvb] at HV
    rw [hvb2, ← hbb, ← hab]
    have HVB := hide hvb
    clear hab hbb hvb hvb2
    refine (isTrue_any a W1).mono ?_
    rintro e W2 ⟨rfl, f2⟩
    have HA2 := hide (HA.out.fr f2 (fun h => h))
    have HB2 := hide (HB.out.fr f2 (fun h => h))
    have HV2 := hide (HV.out.fr f2 (fun h => h))
    have HF2 := hide (HF.out.two f2)
    clear f2
    cases hta : isT a
    · rw [hta] at HP
      have HP : Hid (appP ⟨#[79, 82]⟩ a b = .ok (truthV (isT b))) := hide (by have := HP.out; simpa using this)
      clear hta
      have b0 := HB2.out.c0
      have b1 := HB2.out.c1
      have b2 := HB2.out.c2
      go_wp2_with fail
      clear b0 b1 b2
      refine (isTrue_any b W2).mono ?_
      rintro e W3 ⟨rfl, f3⟩
      have HA3 := hide (HA2.out.fr f3 (fun h => h))
      have HB3 := hide (HB2.out.fr f3 (fun h => h))
      have HV3 := hide (HV2.out.fr f3 (fun h => h))
      have HF3 := hide (HF2.out.two f3)
      clear f3
      obtain ⟨tb, htb⟩ : ∃ tb, isT b = tb := ⟨_, rfl⟩
      rw [htb] at HP ⊢
      clear htb
      cases tb
      · go_wp2_with fail
        refine (truth_any false W3).mono ?_
        rintro e W4 ⟨rfl, f4⟩
        have HA4 := hide (HA3.out.fr f4 (fun h => h))
        have HB4 := hide (HB3.out.fr f4 (fun h => h))
        have HV4 := hide (HV3.out.fr f4 (fun h => h))
        have HF4 := hide (HF3.out.two f4)
        clear f4
        obtain ⟨tv, htv⟩ : ∃ tv, truthV false = tv := ⟨_, rfl⟩
        rw [htv]
        have HTV := hide htv
        clear htv
        have HQ := hide (HV4.out.fill (.int .i64 tv.kind) (.int .i64 tv.num) (.string tv.text))
        have HF9 := hide ((HF4.out.trans (fill3_fr W4 vb (.int .i64 tv.kind) (.int .i64 tv.num) (.string tv.text))).mono (Y := fun _ => False) (fun k hk h => by rcases h with h | h; exact h; (have h : k = vb := h; have := HVB.out; omega)))
        have y0 := HV4.out.c0
        have y1 := HV4.out.c1
        have y2 := HV4.out.c2
        have q0 := HV4.out.z 0
        have q1 := HV4.out.z 1
        have q2 := HV4.out.z 2
        go_wp2_with fail
        refine bodyPost_ret (results_vl Try.results40 _ _ vb HQ.out rfl) rfl ⟨?_, HF9.out⟩
        rw [HP.out, HTV.out]
        exact rfl
      · go_wp2_with fail
        refine (truth_any true W3).mono ?_
        rintro e W4 ⟨rfl, f4⟩
        have HA4 := hide (HA3.out.fr f4 (fun h => h))
        have HB4 := hide (HB3.out.fr f4 (fun h => h))
        have HV4 := hide (HV3.out.fr f4 (fun h => h))
        have HF4 := hide (HF3.out.two f4)
        clear f4
        obtain ⟨tv, htv⟩ : ∃ tv, truthV true = tv := ⟨_, rfl⟩
        rw [htv]
        have HTV := hide htv
        clear htv
        have HQ := hide (HV4.out.fill (.int .i64 tv.kind) (.int .i64 tv.num) (.string tv.text))
        have HF9 := hide ((HF4.out.trans (fill3_fr W4 vb (.int .i64 tv.kind) (.int .i64 tv.num) (.string tv.text))).mono (Y := fun _ => False) (fun k hk h => by rcases h with h | h; exact h; (have h : k = vb := h; have := HVB.out; omega)))
        have y0 := HV4.out.c0
        have y1 := HV4.out.c1
        have y2 := HV4.out.c2
        have q0 := HV4.out.z 0
        have q1 := HV4.out.z 1
        have q2 := HV4.out.z 2
        go_wp2_with fail
        refine bodyPost_ret (results_vl Try.results40 _ _ vb HQ.out rfl) rfl ⟨?_, HF9.out⟩
        rw [HP.out, HTV.out]
        exact rfl
    · rw [hta] at HP
      have HP : Hid (appP ⟨#[79, 82]⟩ a b = .ok (truthV true)) := hide (by have := HP.out; simpa using this)
      clear hta
      have a0 := HA2.out.c0
      have a1 := HA2.out.c1
      have a2 := HA2.out.c2
      have b0 := HB2.out.c0
      have b1 := HB2.out.c1
      have b2 := HB2.out.c2
      go_wp2_with fail
      clear a0 a1 a2
      clear b0 b1 b2
      refine (truth_any true W2).mono ?_
      rintro e W3 ⟨rfl, f3⟩
      have HA3 := hide (HA2.out.fr f3 (fun h => h))
      have HB3 := hide (HB2.out.fr f3 (fun h => h))
      have HV3 := hide (HV2.out.fr f3 (fun h => h))
      have HF3 := hide (HF2.out.two f3)
      clear f3
      obtain ⟨tv, htv⟩ : ∃ tv, truthV true = tv := ⟨_, rfl⟩
      rw [htv]
      have HTV := hide htv
      clear htv
      have HQ := hide (HV3.out.fill (.int .i64 tv.kind) (.int .i64 tv.num) (.string tv.text))
      have HF9 := hide ((HF3.out.trans (fill3_fr W3 vb (.int .i64 tv.kind) (.int .i64 tv.num) (.string tv.text))).mono (Y := fun _ => False) (fun k hk h => by rcases h with h | h; exact h; (have h : k = vb := h; have := HVB.out; omega)))
      have y0 := HV3.out.c0
      have y1 := HV3.out.c1
      have y2 := HV3.out.c2
      have q0 := HV3.out.z 0
      have q1 := HV3.out.z 1
      have q2 := HV3.out.z 2
      go_wp2_with fail
      refine bodyPost_ret (results_vl Try.results40 _ _ vb HQ.out rfl) rfl ⟨?_, HF9.out⟩
      rw [HP.out, HTV.out]
      exact rfl
  · by_cases h1 : op.toList = [65, 78, 68]
    · have e := ba_of h1
      subst e
      clear h0 h1
      have HP : Hid (appP ⟨#[65, 78, 68]⟩ a b = .ok (truthV (isT a && isT b))) := hide (by unfold appP; rw [ByteArray.toList_eq]; rfl)
      go_enter Try.func40, Try.ntmps40
      go_wp2_with fail
      generalize ((w.alloc (vlB a)).alloc (vlB b)).alloc zObj = W1 at *
      obtain ⟨ab, hab⟩ : ∃ ab, ab = w.heap.size := ⟨_, rfl⟩
      obtain ⟨bb, hbb⟩ : ∃ bb, bb = w.heap.size + 1 := ⟨_, rfl⟩
      obtain ⟨vb, hvb⟩ : ∃ vb, vb = w.heap.size + 2 := ⟨_, rfl⟩
      have hvb2 : w.heap.size + 1 + 1 = vb := by omega
      rw [← hab] at HA
      rw [← hbb] at HB
      rw [← hvb] at HV
      rw [hvb2, ← hbb, ← hab]
      have HVB := hide hvb
      clear hab hbb hvb hvb2
      refine (isTrue_any a W1).mono ?_
      rintro e W2 ⟨rfl, f2⟩
      have HA2 := hide (HA.out.fr f2 (fun h => h))
      have HB2 := hide (HB.out.fr f2 (fun h => h))
      have HV2 := hide (HV.out.fr f2 (fun h => h))
      have HF2 := hide (HF.out.two f2)
      clear f2
      cases hta : isT a
      · rw [hta] at HP
        have HP : Hid (appP ⟨#[65, 78, 68]⟩ a b = .ok (truthV false)) := hide (by have := HP.out; simpa using this)
        clear hta
        have a0 := HA2.out.c0
        have a1 := HA2.out.c1
        have a2 := HA2.out.c2
        have b0 := HB2.out.c0
        have b1 := HB2.out.c1
        have b2 := HB2.out.c2
        go_wp2_with fail
        clear a0 a1 a2
        clear b0 b1 b2
        refine (truth_any false W2).mono ?_
        rintro e W3 ⟨rfl, f3⟩
        have HA3 := hide (HA2.out.fr f3 (fun h => h))
        have HB3 := hide (HB2.out.fr f3 (fun h => h))
        have HV3 := hide (HV2.out.fr f3 (fun h => h))
        have HF3 := hide (HF2.out.two f3)
        clear f3
        obtain ⟨tv, htv⟩ : ∃ tv, truthV false = tv := ⟨_, rfl⟩
        rw [htv]
        have HTV := hide htv
        clear htv
        have HQ := hide (HV3.out.fill (.int .i64 tv.kind) (.int .i64 tv.num) (.string tv.text))
        have HF9 := hide ((HF3.out.trans (fill3_fr W3 vb (.int .i64 tv.kind) (.int .i64 tv.num) (.string tv.text))).mono (Y := fun _ => False) (fun k hk h => by rcases h with h | h; exact h; (have h : k = vb := h; have := HVB.out; omega)))
        have y0 := HV3.out.c0
        have y1 := HV3.out.c1
        have y2 := HV3.out.c2
        have q0 := HV3.out.z 0
        have q1 := HV3.out.z 1
        have q2 := HV3.out.z 2
        go_wp2_with fail
        refine bodyPost_ret (results_vl Try.results40 _ _ vb HQ.out rfl) rfl ⟨?_, HF9.out⟩
        rw [HP.out, HTV.out]
        exact rfl
      · rw [hta] at HP
        have HP : Hid (appP ⟨#[65, 78, 68]⟩ a b = .ok (truthV (isT b))) := hide (by have := HP.out; simpa using this)
        clear hta
        have b0 := HB2.out.c0
        have b1 := HB2.out.c1
        have b2 := HB2.out.c2
        go_wp2_with fail
        clear b0 b1 b2
        refine (isTrue_any b W2).mono ?_
        rintro e W3 ⟨rfl, f3⟩
        have HA3 := hide (HA2.out.fr f3 (fun h => h))
        have HB3 := hide (HB2.out.fr f3 (fun h => h))
        have HV3 := hide (HV2.out.fr f3 (fun h => h))
        have HF3 := hide (HF2.out.two f3)
        clear f3
        obtain ⟨tb, htb⟩ : ∃ tb, isT b = tb := ⟨_, rfl⟩
        rw [htb] at HP ⊢
        clear htb
        cases tb
        · go_wp2_with fail
          refine (truth_any false W3).mono ?_
          rintro e W4 ⟨rfl, f4⟩
          have HA4 := hide (HA3.out.fr f4 (fun h => h))
          have HB4 := hide (HB3.out.fr f4 (fun h => h))
          have HV4 := hide (HV3.out.fr f4 (fun h => h))
          have HF4 := hide (HF3.out.two f4)
          clear f4
          obtain ⟨tv, htv⟩ : ∃ tv, truthV false = tv := ⟨_, rfl⟩
          rw [htv]
          have HTV := hide htv
          clear htv
          have HQ := hide (HV4.out.fill (.int .i64 tv.kind) (.int .i64 tv.num) (.string tv.text))
          have HF9 := hide ((HF4.out.trans (fill3_fr W4 vb (.int .i64 tv.kind) (.int .i64 tv.num) (.string tv.text))).mono (Y := fun _ => False) (fun k hk h => by rcases h with h | h; exact h; (have h : k = vb := h; have := HVB.out; omega)))
          have y0 := HV4.out.c0
          have y1 := HV4.out.c1
          have y2 := HV4.out.c2
          have q0 := HV4.out.z 0
          have q1 := HV4.out.z 1
          have q2 := HV4.out.z 2
          go_wp2_with fail
          refine bodyPost_ret (results_vl Try.results40 _ _ vb HQ.out rfl) rfl ⟨?_, HF9.out⟩
          rw [HP.out, HTV.out]
          exact rfl
        · go_wp2_with fail
          refine (truth_any true W3).mono ?_
          rintro e W4 ⟨rfl, f4⟩
          have HA4 := hide (HA3.out.fr f4 (fun h => h))
          have HB4 := hide (HB3.out.fr f4 (fun h => h))
          have HV4 := hide (HV3.out.fr f4 (fun h => h))
          have HF4 := hide (HF3.out.two f4)
          clear f4
          obtain ⟨tv, htv⟩ : ∃ tv, truthV true = tv := ⟨_, rfl⟩
          rw [htv]
          have HTV := hide htv
          clear htv
          have HQ := hide (HV4.out.fill (.int .i64 tv.kind) (.int .i64 tv.num) (.string tv.text))
          have HF9 := hide ((HF4.out.trans (fill3_fr W4 vb (.int .i64 tv.kind) (.int .i64 tv.num) (.string tv.text))).mono (Y := fun _ => False) (fun k hk h => by rcases h with h | h; exact h; (have h : k = vb := h; have := HVB.out; omega)))
          have y0 := HV4.out.c0
          have y1 := HV4.out.c1
          have y2 := HV4.out.c2
          have q0 := HV4.out.z 0
          have q1 := HV4.out.z 1
          have q2 := HV4.out.z 2
          go_wp2_with fail
          refine bodyPost_ret (results_vl Try.results40 _ _ vb HQ.out rfl) rfl ⟨?_, HF9.out⟩
          rw [HP.out, HTV.out]
          exact rfl
    · by_cases h2 : op.toList = [78, 79, 84]
      · have e := ba_of h2
        subst e
        clear h0 h1 h2
        have HP : Hid (appP ⟨#[78, 79, 84]⟩ a b = .ok (truthV (decide (a.num = 0)))) := hide (by unfold appP; rw [ByteArray.toList_eq]; rfl)
        go_enter Try.func40, Try.ntmps40
        go_wp2_with fail
        generalize ((w.alloc (vlB a)).alloc (vlB b)).alloc zObj = W1 at *
        obtain ⟨ab, hab⟩ : ∃ ab, ab = w.heap.size := ⟨_, rfl⟩
        obtain ⟨bb, hbb⟩ : ∃ bb, bb = w.heap.size + 1 := ⟨_, rfl⟩
        obtain ⟨vb, hvb⟩ : ∃ vb, vb = w.heap.size + 2 := ⟨_, rfl⟩
        have hvb2 : w.heap.size + 1 + 1 = vb := by omega
        rw [← hab] at HA
        rw [← hbb] at HB
        rw [← hvb] at HV
        rw [hvb2, ← hbb, ← hab]
        have HVB := hide hvb
        clear hab hbb hvb hvb2
        refine (truth_any _ W1).mono ?_
        rintro e W2 ⟨rfl, f2⟩
        have HA2 := hide (HA.out.fr f2 (fun h => h))
        have HB2 := hide (HB.out.fr f2 (fun h => h))
        have HV2 := hide (HV.out.fr f2 (fun h => h))
        have HF2 := hide (HF.out.two f2)
        clear f2
        obtain ⟨tv, htv⟩ : ∃ tv, truthV (decide (a.num = 0)) = tv := ⟨_, rfl⟩
        first | rw [htv] | (rw [show (a.num == 0) = decide (a.num = 0) from rfl, htv])
        have HTV := hide htv
        clear htv
        have HQ := hide (HV2.out.fill (.int .i64 tv.kind) (.int .i64 tv.num) (.string tv.text))
        have HF9 := hide ((HF2.out.trans (fill3_fr W2 vb (.int .i64 tv.kind) (.int .i64 tv.num) (.string tv.text))).mono (Y := fun _ => False) (fun k hk h => by rcases h with h | h; exact h; (have h : k = vb := h; have := HVB.out; omega)))
        have y0 := HV2.out.c0
        have y1 := HV2.out.c1
        have y2 := HV2.out.c2
        have q0 := HV2.out.z 0
        have q1 := HV2.out.z 1
        have q2 := HV2.out.z 2
        go_wp2_with fail
        refine bodyPost_ret (results_vl Try.results40 _ _ vb HQ.out rfl) rfl ⟨?_, HF9.out⟩
        rw [HP.out, HTV.out]
        exact rfl
      · by_cases h3 : op.toList = [43]
        · have e := ba_of h3
          subst e
          clear h0 h1 h2 h3
          have HP : Hid (appP ⟨#[43]⟩ a b = numV (sumP a.num b.num)) := hide (by unfold appP; rw [ByteArray.toList_eq]; rfl)
          go_enter Try.func40, Try.ntmps40
          go_wp2_with fail
          generalize ((w.alloc (vlB a)).alloc (vlB b)).alloc zObj = W1 at *
          obtain ⟨ab, hab⟩ : ∃ ab, ab = w.heap.size := ⟨_, rfl⟩
          obtain ⟨bb, hbb⟩ : ∃ bb, bb = w.heap.size + 1 := ⟨_, rfl⟩
          obtain ⟨vb, hvb⟩ : ∃ vb, vb = w.heap.size + 2 := ⟨_, rfl⟩
          have hvb2 : w.heap.size + 1 + 1 = vb := by omega
          rw [← hab] at HA
          rw [← hbb] at HB
          rw [← hvb] at HV
          rw [hvb2, ← hbb, ← hab]
          have HVB := hide hvb
          clear hab hbb hvb hvb2
          refine (sum_any a.num b.num W1).mono ?_
          rintro e w' ⟨hp, hw⟩
          rw [hw]
          clear hw
          cases hs : sumP a.num b.num
          · rw [hs] at hp
            obtain rfl : e = .panicked [refused 171] := hp
            exact ⟨rfl, by rw [HP.out, hs]; exact rfl, HF.out⟩
          · rename_i n
            rw [hs] at hp
            obtain rfl : e = .returned (.int .i64 n) := hp
            have HS := hide hs
            clear hs
            go_wp2_with fail
            refine (number_any n W1).mono ?_
            rintro e W2 ⟨rfl, f2⟩
            have HA2 := hide (HA.out.fr f2 (fun h => h))
            have HB2 := hide (HB.out.fr f2 (fun h => h))
            have HV2 := hide (HV.out.fr f2 (fun h => h))
            have HF2 := hide (HF.out.two f2)
            clear f2
            obtain ⟨tv, htv⟩ : ∃ tv : Vl, tv = ⟨1, n, ⟨#[]⟩⟩ := ⟨_, rfl⟩
            rw [show (Value.agg #[.int .i64 1, .int .i64 n, .string ⟨#[]⟩]) = .agg #[.int .i64 tv.kind, .int .i64 tv.num, .string tv.text] by rw [htv]]
            have HTV := hide htv
            clear htv
            have HQ := hide (HV2.out.fill (.int .i64 tv.kind) (.int .i64 tv.num) (.string tv.text))
            have HF9 := hide ((HF2.out.trans (fill3_fr W2 vb (.int .i64 tv.kind) (.int .i64 tv.num) (.string tv.text))).mono (Y := fun _ => False) (fun k hk h => by rcases h with h | h; exact h; (have h : k = vb := h; have := HVB.out; omega)))
            have y0 := HV2.out.c0
            have y1 := HV2.out.c1
            have y2 := HV2.out.c2
            have q0 := HV2.out.z 0
            have q1 := HV2.out.z 1
            have q2 := HV2.out.z 2
            go_wp2_with fail
            refine bodyPost_ret (results_vl Try.results40 _ _ vb HQ.out rfl) rfl ⟨?_, HF9.out⟩
            rw [HP.out, HS.out]
            show Ending.returned _ = Ending.returned _
            rw [HTV.out]
        · by_cases h4 : op.toList = [45]
          · have e := ba_of h4
            subst e
            clear h0 h1 h2 h3 h4
            have HP : Hid (appP ⟨#[45]⟩ a b = numV (diffP a.num b.num)) := hide (by unfold appP; rw [ByteArray.toList_eq]; rfl)
            go_enter Try.func40, Try.ntmps40
            go_wp2_with fail
            generalize ((w.alloc (vlB a)).alloc (vlB b)).alloc zObj = W1 at *
            obtain ⟨ab, hab⟩ : ∃ ab, ab = w.heap.size := ⟨_, rfl⟩
            obtain ⟨bb, hbb⟩ : ∃ bb, bb = w.heap.size + 1 := ⟨_, rfl⟩
            obtain ⟨vb, hvb⟩ : ∃ vb, vb = w.heap.size + 2 := ⟨_, rfl⟩
            have hvb2 : w.heap.size + 1 + 1 = vb := by omega
            rw [← hab] at HA
            rw [← hbb] at HB
            rw [← hvb] at HV
            rw [hvb2, ← hbb, ← hab]
            have HVB := hide hvb
            clear hab hbb hvb hvb2
            refine (diff_any a.num b.num W1).mono ?_
            rintro e w' ⟨hp, hw⟩
            rw [hw]
            clear hw
            cases hs : diffP a.num b.num
            · rw [hs] at hp
              obtain rfl : e = .panicked [refused 171] := hp
              exact ⟨rfl, by rw [HP.out, hs]; exact rfl, HF.out⟩
            · rename_i n
              rw [hs] at hp
              obtain rfl : e = .returned (.int .i64 n) := hp
              have HS := hide hs
              clear hs
              go_wp2_with fail
              refine (number_any n W1).mono ?_
              rintro e W2 ⟨rfl, f2⟩
              have HA2 := hide (HA.out.fr f2 (fun h => h))
              have HB2 := hide (HB.out.fr f2 (fun h => h))
              have HV2 := hide (HV.out.fr f2 (fun h => h))
              have HF2 := hide (HF.out.two f2)
              clear f2
              obtain ⟨tv, htv⟩ : ∃ tv : Vl, tv = ⟨1, n, ⟨#[]⟩⟩ := ⟨_, rfl⟩
              rw [show (Value.agg #[.int .i64 1, .int .i64 n, .string ⟨#[]⟩]) = .agg #[.int .i64 tv.kind, .int .i64 tv.num, .string tv.text] by rw [htv]]
              have HTV := hide htv
              clear htv
              have HQ := hide (HV2.out.fill (.int .i64 tv.kind) (.int .i64 tv.num) (.string tv.text))
              have HF9 := hide ((HF2.out.trans (fill3_fr W2 vb (.int .i64 tv.kind) (.int .i64 tv.num) (.string tv.text))).mono (Y := fun _ => False) (fun k hk h => by rcases h with h | h; exact h; (have h : k = vb := h; have := HVB.out; omega)))
              have y0 := HV2.out.c0
              have y1 := HV2.out.c1
              have y2 := HV2.out.c2
              have q0 := HV2.out.z 0
              have q1 := HV2.out.z 1
              have q2 := HV2.out.z 2
              go_wp2_with fail
              refine bodyPost_ret (results_vl Try.results40 _ _ vb HQ.out rfl) rfl ⟨?_, HF9.out⟩
              rw [HP.out, HS.out]
              show Ending.returned _ = Ending.returned _
              rw [HTV.out]
          · by_cases h5 : op.toList = [42]
            · have e := ba_of h5
              subst e
              clear h0 h1 h2 h3 h4 h5
              have HP : Hid (appP ⟨#[42]⟩ a b = numV (mulP a.num b.num)) := hide (by unfold appP; rw [ByteArray.toList_eq]; rfl)
              go_enter Try.func40, Try.ntmps40
              go_wp2_with fail
              generalize ((w.alloc (vlB a)).alloc (vlB b)).alloc zObj = W1 at *
              obtain ⟨ab, hab⟩ : ∃ ab, ab = w.heap.size := ⟨_, rfl⟩
              obtain ⟨bb, hbb⟩ : ∃ bb, bb = w.heap.size + 1 := ⟨_, rfl⟩
              obtain ⟨vb, hvb⟩ : ∃ vb, vb = w.heap.size + 2 := ⟨_, rfl⟩
              have hvb2 : w.heap.size + 1 + 1 = vb := by omega
              rw [← hab] at HA
              rw [← hbb] at HB
              rw [← hvb] at HV
              rw [hvb2, ← hbb, ← hab]
              have HVB := hide hvb
              clear hab hbb hvb hvb2
              refine (prod_any a.num b.num W1).mono ?_
              rintro e w' ⟨hp, hw⟩
              rw [hw]
              clear hw
              cases hs : mulP a.num b.num
              · rw [hs] at hp
                obtain rfl : e = .panicked [refused 171] := hp
                exact ⟨rfl, by rw [HP.out, hs]; exact rfl, HF.out⟩
              · rename_i n
                rw [hs] at hp
                obtain rfl : e = .returned (.int .i64 n) := hp
                have HS := hide hs
                clear hs
                go_wp2_with fail
                refine (number_any n W1).mono ?_
                rintro e W2 ⟨rfl, f2⟩
                have HA2 := hide (HA.out.fr f2 (fun h => h))
                have HB2 := hide (HB.out.fr f2 (fun h => h))
                have HV2 := hide (HV.out.fr f2 (fun h => h))
                have HF2 := hide (HF.out.two f2)
                clear f2
                obtain ⟨tv, htv⟩ : ∃ tv : Vl, tv = ⟨1, n, ⟨#[]⟩⟩ := ⟨_, rfl⟩
                rw [show (Value.agg #[.int .i64 1, .int .i64 n, .string ⟨#[]⟩]) = .agg #[.int .i64 tv.kind, .int .i64 tv.num, .string tv.text] by rw [htv]]
                have HTV := hide htv
                clear htv
                have HQ := hide (HV2.out.fill (.int .i64 tv.kind) (.int .i64 tv.num) (.string tv.text))
                have HF9 := hide ((HF2.out.trans (fill3_fr W2 vb (.int .i64 tv.kind) (.int .i64 tv.num) (.string tv.text))).mono (Y := fun _ => False) (fun k hk h => by rcases h with h | h; exact h; (have h : k = vb := h; have := HVB.out; omega)))
                have y0 := HV2.out.c0
                have y1 := HV2.out.c1
                have y2 := HV2.out.c2
                have q0 := HV2.out.z 0
                have q1 := HV2.out.z 1
                have q2 := HV2.out.z 2
                go_wp2_with fail
                refine bodyPost_ret (results_vl Try.results40 _ _ vb HQ.out rfl) rfl ⟨?_, HF9.out⟩
                rw [HP.out, HS.out]
                show Ending.returned _ = Ending.returned _
                rw [HTV.out]
            · have HP : Hid (appP op a b = .ok (truthV (standsP op.toList (cmpP a b)))) := hide (by unfold appP; rw [if_neg h0, if_neg h1, if_neg h2, if_neg h3, if_neg h4, if_neg h5])
              have b0 : (op.toList == [79, 82]) = false := by simp [h0]
              have b1 : (op.toList == [65, 78, 68]) = false := by simp [h1]
              have b2 : (op.toList == [78, 79, 84]) = false := by simp [h2]
              have b3 : (op.toList == [43]) = false := by simp [h3]
              have b4 : (op.toList == [45]) = false := by simp [h4]
              have b5 : (op.toList == [42]) = false := by simp [h5]
              clear h0 h1 h2 h3 h4 h5
              go_enter Try.func40, Try.ntmps40
              go_wp2_with fail
              generalize ((w.alloc (vlB a)).alloc (vlB b)).alloc zObj = W1 at *
              obtain ⟨ab, hab⟩ : ∃ ab, ab = w.heap.size := ⟨_, rfl⟩
              obtain ⟨bb, hbb⟩ : ∃ bb, bb = w.heap.size + 1 := ⟨_, rfl⟩
              obtain ⟨vb, hvb⟩ : ∃ vb, vb = w.heap.size + 2 := ⟨_, rfl⟩
              have hvb2 : w.heap.size + 1 + 1 = vb := by omega
              rw [← hab] at HA
              rw [← hbb] at HB
              rw [← hvb] at HV
              rw [hvb2, ← hbb, ← hab]
              have HVB := hide hvb
              clear hab hbb hvb hvb2
              refine (compare_any a b W1).mono ?_
              rintro e W2 ⟨rfl, f2⟩
              have HA2 := hide (HA.out.fr f2 (fun h => h))
              have HB2 := hide (HB.out.fr f2 (fun h => h))
              have HV2 := hide (HV.out.fr f2 (fun h => h))
              have HF2 := hide (HF.out.two f2)
              clear f2
              go_wp2_with fail
              refine (stands_any op (cmpP a b) W2).mono ?_
              rintro e w' ⟨rfl, hw⟩
              rw [hw]
              clear hw
              obtain ⟨sb, hsb⟩ : ∃ sb, standsP op.toList (cmpP a b) = sb := ⟨_, rfl⟩
              rw [hsb] at HP ⊢
              clear hsb
              go_wp2_with fail
              refine (truth_any sb W2).mono ?_
              rintro e W3 ⟨rfl, f3⟩
              have HA3 := hide (HA2.out.fr f3 (fun h => h))
              have HB3 := hide (HB2.out.fr f3 (fun h => h))
              have HV3 := hide (HV2.out.fr f3 (fun h => h))
              have HF3 := hide (HF2.out.two f3)
              clear f3
              obtain ⟨tv, htv⟩ : ∃ tv, truthV sb = tv := ⟨_, rfl⟩
              rw [htv]
              have HTV := hide htv
              clear htv
              have HQ := hide (HV3.out.fill (.int .i64 tv.kind) (.int .i64 tv.num) (.string tv.text))
              have HF9 := hide ((HF3.out.trans (fill3_fr W3 vb (.int .i64 tv.kind) (.int .i64 tv.num) (.string tv.text))).mono (Y := fun _ => False) (fun k hk h => by rcases h with h | h; exact h; (have h : k = vb := h; have := HVB.out; omega)))
              have y0 := HV3.out.c0
              have y1 := HV3.out.c1
              have y2 := HV3.out.c2
              have q0 := HV3.out.z 0
              have q1 := HV3.out.z 1
              have q2 := HV3.out.z 2
              go_wp2_with fail
              refine bodyPost_ret (results_vl Try.results40 _ _ vb HQ.out rfl) rfl ⟨?_, HF9.out⟩
              rw [HP.out, HTV.out]
              exact rfl
end Go.Proofs.Ytbcmgodpplapaaa
