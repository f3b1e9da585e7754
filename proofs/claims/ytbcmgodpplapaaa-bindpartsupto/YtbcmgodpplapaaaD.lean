/- Which kind an operator makes of kinds. -/
import Derived.Test.YtbcmgodpplapaaaC
namespace Go.Proofs.Ytbcmgodpplapaaa
open Go.RowKit
set_option maxRecDepth 100000
set_option linter.unusedVariables false
set_option linter.unusedSimpArgs false

def resultK (op : List UInt8) (ks : List Int) : Option Int :=
  if op = [79, 82] ∨ op = [65, 78, 68] then (if ks = [3, 3] then some 3 else none)
  else if op = [78, 79, 84] then (if ks = [3] then some 3 else none)
  else if op = [61] ∨ op = [60, 62] ∨ op = [60, 61] ∨ op = [62, 61] ∨ op = [60] ∨ op = [62] then (if ks = [1, 1] ∨ ks = [2, 2] then some 3 else none)
  else if op = [43] ∨ op = [42] then (if ks = [1, 1] then some 1 else none)
  else if op = [45] then (if ks = [1] ∨ ks = [1, 1] then some 1 else none)
  else none
/-- A number is answered, or it is given up. -/
def NumPost (o : Option Int) (code : Int) (e : Ending) : Prop := match o with
  | some k => e = .returned (.int .i64 k)
  | none => e = .panicked [refused code]
theorem ba_of {op : ByteArray} {l : List UInt8} (h : op.toList = l) : op = ⟨l.toArray⟩ := by
  rw [ByteArray.toList_eq] at h
  cases op
  simp only [ByteArray.mk.injEq] at *
  rw [← h]
theorem lit_nums (w : World) (L : List Int) : Nums (w.alloc (.cells (L.map (Value.int .i64)).toArray 3)) (some ⟨w.heap.size, 0, none⟩) L := by
  intro k v hk
  refine ⟨_, rfl, ?_⟩
  rw [cell_of_row _ _ _ _ _ _ (heap_alloc_new w _)]
  simp [hk]

set_option maxHeartbeats 8000000 in
theorem result_any {w : World} (op : ByteArray) (a : Option Addr) (n c : Nat) (K : List Int) (hK : Nums w a K) (hn : K.length = n) (hb : n ≤ 4611686018427387904) :
    Calls Try.prog 35 #[.string op, .slice a n c] w fun e w' => NumPost (resultK op.toList K) 170 e ∧ Fr w w' (fun _ => False) := by
  have HK := hide hK
  have HN := hide hn
  clear hK hn
  by_cases h0 : op.toList = [79, 82]
  · have h := h0
    clear h0
    have e := ba_of h
    subst e
    clear h
    go_enter Try.func35, Try.ntmps35
    go_wp2_with fail
    refine (are_any (w := w.alloc (.cells #[.int .i64 3, .int .i64 3] 3)) a (some ⟨w.heap.size, 0, none⟩) n 2 c 2 K [3, 3] ((HK.out.fr (Fr.refl _ _)).fr (Fr.alloc _ _ _)) (lit_nums w [3, 3]) HN.out rfl hb).mono ?_
    rintro e W1 ⟨rfl, f1⟩
    by_cases hk : K = [3, 3]
    · have HR : Hid (resultK (⟨#[79, 82]⟩ : ByteArray).toList K = some 3) := hide (by rw [show (⟨#[79, 82]⟩ : ByteArray).toList = [79, 82] from by rw [ByteArray.toList_eq]]; simp [resultK, hk])
      have hd : decide (K = [3, 3]) = true := by simp [hk]
      rw [hd]
      clear hd hk
      have HF := hide ((Fr.alloc w _ _).two f1)
      clear f1
      go_wp2_with (go_at_call 41; refine (given_yes _ _).mono ?_; rintro e w' ⟨rfl, hw⟩; rw [hw]; clear hw)
      go_ret
      exact ⟨by rw [HR.out]; exact rfl, HF.out⟩
    · have hd : decide (K = [3, 3]) = false := by simp [hk]
      rw [hd]
      clear hd
      have HR : Hid (resultK (⟨#[79, 82]⟩ : ByteArray).toList K = none) := hide (by rw [show (⟨#[79, 82]⟩ : ByteArray).toList = [79, 82] from by rw [ByteArray.toList_eq]]; simp [resultK, hk])
      have HF := hide ((Fr.alloc w _ _).two f1)
      clear f1 hk
      go_wp2_with (go_at_call 41; refine (given_no _ _).mono ?_; rintro e w' ⟨rfl, hw⟩; rw [hw]; clear hw)
      exact ⟨rfl, by rw [HR.out]; exact rfl, HF.out⟩
  · by_cases h1 : op.toList = [65, 78, 68]
    · have h := h1
      clear h1
      clear h0
      have e := ba_of h
      subst e
      clear h
      go_enter Try.func35, Try.ntmps35
      go_wp2_with fail
      refine (are_any (w := w.alloc (.cells #[.int .i64 3, .int .i64 3] 3)) a (some ⟨w.heap.size, 0, none⟩) n 2 c 2 K [3, 3] ((HK.out.fr (Fr.refl _ _)).fr (Fr.alloc _ _ _)) (lit_nums w [3, 3]) HN.out rfl hb).mono ?_
      rintro e W1 ⟨rfl, f1⟩
      by_cases hk : K = [3, 3]
      · have HR : Hid (resultK (⟨#[65, 78, 68]⟩ : ByteArray).toList K = some 3) := hide (by rw [show (⟨#[65, 78, 68]⟩ : ByteArray).toList = [65, 78, 68] from by rw [ByteArray.toList_eq]]; simp [resultK, hk])
        have hd : decide (K = [3, 3]) = true := by simp [hk]
        rw [hd]
        clear hd hk
        have HF := hide ((Fr.alloc w _ _).two f1)
        clear f1
        go_wp2_with (go_at_call 41; refine (given_yes _ _).mono ?_; rintro e w' ⟨rfl, hw⟩; rw [hw]; clear hw)
        go_ret
        exact ⟨by rw [HR.out]; exact rfl, HF.out⟩
      · have hd : decide (K = [3, 3]) = false := by simp [hk]
        rw [hd]
        clear hd
        have HR : Hid (resultK (⟨#[65, 78, 68]⟩ : ByteArray).toList K = none) := hide (by rw [show (⟨#[65, 78, 68]⟩ : ByteArray).toList = [65, 78, 68] from by rw [ByteArray.toList_eq]]; simp [resultK, hk])
        have HF := hide ((Fr.alloc w _ _).two f1)
        clear f1 hk
        go_wp2_with (go_at_call 41; refine (given_no _ _).mono ?_; rintro e w' ⟨rfl, hw⟩; rw [hw]; clear hw)
        exact ⟨rfl, by rw [HR.out]; exact rfl, HF.out⟩
    · by_cases h2 : op.toList = [78, 79, 84]
      · have h := h2
        clear h2
        clear h0 h1
        have e := ba_of h
        subst e
        clear h
        go_enter Try.func35, Try.ntmps35
        go_wp2_with fail
        refine (are_any (w := w.alloc (.cells #[.int .i64 3] 3)) a (some ⟨w.heap.size, 0, none⟩) n 1 c 1 K [3] ((HK.out.fr (Fr.refl _ _)).fr (Fr.alloc _ _ _)) (lit_nums w [3]) HN.out rfl hb).mono ?_
        rintro e W1 ⟨rfl, f1⟩
        by_cases hk : K = [3]
        · have HR : Hid (resultK (⟨#[78, 79, 84]⟩ : ByteArray).toList K = some 3) := hide (by rw [show (⟨#[78, 79, 84]⟩ : ByteArray).toList = [78, 79, 84] from by rw [ByteArray.toList_eq]]; simp [resultK, hk])
          have hd : decide (K = [3]) = true := by simp [hk]
          rw [hd]
          clear hd hk
          have HF := hide ((Fr.alloc w _ _).two f1)
          clear f1
          go_wp2_with (go_at_call 41; refine (given_yes _ _).mono ?_; rintro e w' ⟨rfl, hw⟩; rw [hw]; clear hw)
          go_ret
          exact ⟨by rw [HR.out]; exact rfl, HF.out⟩
        · have hd : decide (K = [3]) = false := by simp [hk]
          rw [hd]
          clear hd
          have HR : Hid (resultK (⟨#[78, 79, 84]⟩ : ByteArray).toList K = none) := hide (by rw [show (⟨#[78, 79, 84]⟩ : ByteArray).toList = [78, 79, 84] from by rw [ByteArray.toList_eq]]; simp [resultK, hk])
          have HF := hide ((Fr.alloc w _ _).two f1)
          clear f1 hk
          go_wp2_with (go_at_call 41; refine (given_no _ _).mono ?_; rintro e w' ⟨rfl, hw⟩; rw [hw]; clear hw)
          exact ⟨rfl, by rw [HR.out]; exact rfl, HF.out⟩
      · by_cases h3 : op.toList = [61]
        · have h := h3
          clear h3
          clear h0 h1 h2
          have e := ba_of h
          subst e
          clear h
          go_enter Try.func35, Try.ntmps35
          go_wp2_with fail
          refine (are_any (w := w.alloc (.cells #[.int .i64 1, .int .i64 1] 3)) a (some ⟨w.heap.size, 0, none⟩) n 2 c 2 K [1, 1] ((HK.out.fr (Fr.refl _ _)).fr (Fr.alloc _ _ _)) (lit_nums w [1, 1]) HN.out rfl hb).mono ?_
          rintro e W1 ⟨rfl, f1⟩
          by_cases hk : K = [1, 1]
          · have HR : Hid (resultK (⟨#[61]⟩ : ByteArray).toList K = some 3) := hide (by rw [show (⟨#[61]⟩ : ByteArray).toList = [61] from by rw [ByteArray.toList_eq]]; simp [resultK, hk])
            have hd : decide (K = [1, 1]) = true := by simp [hk]
            rw [hd]
            clear hd hk
            have HF := hide ((Fr.alloc w _ _).two f1)
            clear f1
            go_wp2_with (go_at_call 41; refine (given_yes _ _).mono ?_; rintro e w' ⟨rfl, hw⟩; rw [hw]; clear hw)
            go_ret
            exact ⟨by rw [HR.out]; exact rfl, HF.out⟩
          · have hd : decide (K = [1, 1]) = false := by simp [hk]
            rw [hd]
            clear hd
            have HF := hide ((Fr.alloc w _ _).two f1)
            have HK1 := hide hk
            clear f1 hk
            go_wp2_with fail
            refine (are_any (w := W1.alloc (.cells #[.int .i64 2, .int .i64 2] 3)) a (some ⟨W1.heap.size, 0, none⟩) n 2 c 2 K [2, 2] ((HK.out.fr HF.out).fr (Fr.alloc _ _ _)) (lit_nums W1 [2, 2]) HN.out rfl hb).mono ?_
            rintro e W2 ⟨rfl, f2⟩
            by_cases hk : K = [2, 2]
            · have HR : Hid (resultK (⟨#[61]⟩ : ByteArray).toList K = some 3) := hide (by rw [show (⟨#[61]⟩ : ByteArray).toList = [61] from by rw [ByteArray.toList_eq]]; simp [resultK, hk])
              have hd : decide (K = [2, 2]) = true := by simp [hk]
              rw [hd]
              clear hd hk
              have HG := hide (HF.out.two ((Fr.alloc W1 _ _).two f2))
              clear f2
              go_wp2_with (go_at_call 41; refine (given_yes _ _).mono ?_; rintro e w' ⟨rfl, hw⟩; rw [hw]; clear hw)
              go_ret
              exact ⟨by rw [HR.out]; exact rfl, HG.out⟩
            · have HR : Hid (resultK (⟨#[61]⟩ : ByteArray).toList K = none) := hide (by rw [show (⟨#[61]⟩ : ByteArray).toList = [61] from by rw [ByteArray.toList_eq]]; have := HK1.out; simp [resultK, hk, this])
              have hd : decide (K = [2, 2]) = false := by simp [hk]
              rw [hd]
              clear hd hk
              have HG := hide (HF.out.two ((Fr.alloc W1 _ _).two f2))
              clear f2
              go_wp2_with (go_at_call 41; refine (given_no _ _).mono ?_; rintro e w' ⟨rfl, hw⟩; rw [hw]; clear hw)
              exact ⟨rfl, by rw [HR.out]; exact rfl, HG.out⟩
        · by_cases h4 : op.toList = [60, 62]
          · have h := h4
            clear h4
            clear h0 h1 h2 h3
            have e := ba_of h
            subst e
            clear h
            go_enter Try.func35, Try.ntmps35
            go_wp2_with fail
            refine (are_any (w := w.alloc (.cells #[.int .i64 1, .int .i64 1] 3)) a (some ⟨w.heap.size, 0, none⟩) n 2 c 2 K [1, 1] ((HK.out.fr (Fr.refl _ _)).fr (Fr.alloc _ _ _)) (lit_nums w [1, 1]) HN.out rfl hb).mono ?_
            rintro e W1 ⟨rfl, f1⟩
            by_cases hk : K = [1, 1]
            · have HR : Hid (resultK (⟨#[60, 62]⟩ : ByteArray).toList K = some 3) := hide (by rw [show (⟨#[60, 62]⟩ : ByteArray).toList = [60, 62] from by rw [ByteArray.toList_eq]]; simp [resultK, hk])
              have hd : decide (K = [1, 1]) = true := by simp [hk]
              rw [hd]
              clear hd hk
              have HF := hide ((Fr.alloc w _ _).two f1)
              clear f1
              go_wp2_with (go_at_call 41; refine (given_yes _ _).mono ?_; rintro e w' ⟨rfl, hw⟩; rw [hw]; clear hw)
              go_ret
              exact ⟨by rw [HR.out]; exact rfl, HF.out⟩
            · have hd : decide (K = [1, 1]) = false := by simp [hk]
              rw [hd]
              clear hd
              have HF := hide ((Fr.alloc w _ _).two f1)
              have HK1 := hide hk
              clear f1 hk
              go_wp2_with fail
              refine (are_any (w := W1.alloc (.cells #[.int .i64 2, .int .i64 2] 3)) a (some ⟨W1.heap.size, 0, none⟩) n 2 c 2 K [2, 2] ((HK.out.fr HF.out).fr (Fr.alloc _ _ _)) (lit_nums W1 [2, 2]) HN.out rfl hb).mono ?_
              rintro e W2 ⟨rfl, f2⟩
              by_cases hk : K = [2, 2]
              · have HR : Hid (resultK (⟨#[60, 62]⟩ : ByteArray).toList K = some 3) := hide (by rw [show (⟨#[60, 62]⟩ : ByteArray).toList = [60, 62] from by rw [ByteArray.toList_eq]]; simp [resultK, hk])
                have hd : decide (K = [2, 2]) = true := by simp [hk]
                rw [hd]
                clear hd hk
                have HG := hide (HF.out.two ((Fr.alloc W1 _ _).two f2))
                clear f2
                go_wp2_with (go_at_call 41; refine (given_yes _ _).mono ?_; rintro e w' ⟨rfl, hw⟩; rw [hw]; clear hw)
                go_ret
                exact ⟨by rw [HR.out]; exact rfl, HG.out⟩
              · have HR : Hid (resultK (⟨#[60, 62]⟩ : ByteArray).toList K = none) := hide (by rw [show (⟨#[60, 62]⟩ : ByteArray).toList = [60, 62] from by rw [ByteArray.toList_eq]]; have := HK1.out; simp [resultK, hk, this])
                have hd : decide (K = [2, 2]) = false := by simp [hk]
                rw [hd]
                clear hd hk
                have HG := hide (HF.out.two ((Fr.alloc W1 _ _).two f2))
                clear f2
                go_wp2_with (go_at_call 41; refine (given_no _ _).mono ?_; rintro e w' ⟨rfl, hw⟩; rw [hw]; clear hw)
                exact ⟨rfl, by rw [HR.out]; exact rfl, HG.out⟩
          · by_cases h5 : op.toList = [60, 61]
            · have h := h5
              clear h5
              clear h0 h1 h2 h3 h4
              have e := ba_of h
              subst e
              clear h
              go_enter Try.func35, Try.ntmps35
              go_wp2_with fail
              refine (are_any (w := w.alloc (.cells #[.int .i64 1, .int .i64 1] 3)) a (some ⟨w.heap.size, 0, none⟩) n 2 c 2 K [1, 1] ((HK.out.fr (Fr.refl _ _)).fr (Fr.alloc _ _ _)) (lit_nums w [1, 1]) HN.out rfl hb).mono ?_
              rintro e W1 ⟨rfl, f1⟩
              by_cases hk : K = [1, 1]
              · have HR : Hid (resultK (⟨#[60, 61]⟩ : ByteArray).toList K = some 3) := hide (by rw [show (⟨#[60, 61]⟩ : ByteArray).toList = [60, 61] from by rw [ByteArray.toList_eq]]; simp [resultK, hk])
                have hd : decide (K = [1, 1]) = true := by simp [hk]
                rw [hd]
                clear hd hk
                have HF := hide ((Fr.alloc w _ _).two f1)
                clear f1
                go_wp2_with (go_at_call 41; refine (given_yes _ _).mono ?_; rintro e w' ⟨rfl, hw⟩; rw [hw]; clear hw)
                go_ret
                exact ⟨by rw [HR.out]; exact rfl, HF.out⟩
              · have hd : decide (K = [1, 1]) = false := by simp [hk]
                rw [hd]
                clear hd
                have HF := hide ((Fr.alloc w _ _).two f1)
                have HK1 := hide hk
                clear f1 hk
                go_wp2_with fail
                refine (are_any (w := W1.alloc (.cells #[.int .i64 2, .int .i64 2] 3)) a (some ⟨W1.heap.size, 0, none⟩) n 2 c 2 K [2, 2] ((HK.out.fr HF.out).fr (Fr.alloc _ _ _)) (lit_nums W1 [2, 2]) HN.out rfl hb).mono ?_
                rintro e W2 ⟨rfl, f2⟩
                by_cases hk : K = [2, 2]
                · have HR : Hid (resultK (⟨#[60, 61]⟩ : ByteArray).toList K = some 3) := hide (by rw [show (⟨#[60, 61]⟩ : ByteArray).toList = [60, 61] from by rw [ByteArray.toList_eq]]; simp [resultK, hk])
                  have hd : decide (K = [2, 2]) = true := by simp [hk]
                  rw [hd]
                  clear hd hk
                  have HG := hide (HF.out.two ((Fr.alloc W1 _ _).two f2))
                  clear f2
                  go_wp2_with (go_at_call 41; refine (given_yes _ _).mono ?_; rintro e w' ⟨rfl, hw⟩; rw [hw]; clear hw)
                  go_ret
                  exact ⟨by rw [HR.out]; exact rfl, HG.out⟩
                · have HR : Hid (resultK (⟨#[60, 61]⟩ : ByteArray).toList K = none) := hide (by rw [show (⟨#[60, 61]⟩ : ByteArray).toList = [60, 61] from by rw [ByteArray.toList_eq]]; have := HK1.out; simp [resultK, hk, this])
                  have hd : decide (K = [2, 2]) = false := by simp [hk]
                  rw [hd]
                  clear hd hk
                  have HG := hide (HF.out.two ((Fr.alloc W1 _ _).two f2))
                  clear f2
                  go_wp2_with (go_at_call 41; refine (given_no _ _).mono ?_; rintro e w' ⟨rfl, hw⟩; rw [hw]; clear hw)
                  exact ⟨rfl, by rw [HR.out]; exact rfl, HG.out⟩
            · by_cases h6 : op.toList = [62, 61]
              · have h := h6
                clear h6
                clear h0 h1 h2 h3 h4 h5
                have e := ba_of h
                subst e
                clear h
                go_enter Try.func35, Try.ntmps35
                go_wp2_with fail
                refine (are_any (w := w.alloc (.cells #[.int .i64 1, .int .i64 1] 3)) a (some ⟨w.heap.size, 0, none⟩) n 2 c 2 K [1, 1] ((HK.out.fr (Fr.refl _ _)).fr (Fr.alloc _ _ _)) (lit_nums w [1, 1]) HN.out rfl hb).mono ?_
                rintro e W1 ⟨rfl, f1⟩
                by_cases hk : K = [1, 1]
                · have HR : Hid (resultK (⟨#[62, 61]⟩ : ByteArray).toList K = some 3) := hide (by rw [show (⟨#[62, 61]⟩ : ByteArray).toList = [62, 61] from by rw [ByteArray.toList_eq]]; simp [resultK, hk])
                  have hd : decide (K = [1, 1]) = true := by simp [hk]
                  rw [hd]
                  clear hd hk
                  have HF := hide ((Fr.alloc w _ _).two f1)
                  clear f1
                  go_wp2_with (go_at_call 41; refine (given_yes _ _).mono ?_; rintro e w' ⟨rfl, hw⟩; rw [hw]; clear hw)
                  go_ret
                  exact ⟨by rw [HR.out]; exact rfl, HF.out⟩
                · have hd : decide (K = [1, 1]) = false := by simp [hk]
                  rw [hd]
                  clear hd
                  have HF := hide ((Fr.alloc w _ _).two f1)
                  have HK1 := hide hk
                  clear f1 hk
                  go_wp2_with fail
                  refine (are_any (w := W1.alloc (.cells #[.int .i64 2, .int .i64 2] 3)) a (some ⟨W1.heap.size, 0, none⟩) n 2 c 2 K [2, 2] ((HK.out.fr HF.out).fr (Fr.alloc _ _ _)) (lit_nums W1 [2, 2]) HN.out rfl hb).mono ?_
                  rintro e W2 ⟨rfl, f2⟩
                  by_cases hk : K = [2, 2]
                  · have HR : Hid (resultK (⟨#[62, 61]⟩ : ByteArray).toList K = some 3) := hide (by rw [show (⟨#[62, 61]⟩ : ByteArray).toList = [62, 61] from by rw [ByteArray.toList_eq]]; simp [resultK, hk])
                    have hd : decide (K = [2, 2]) = true := by simp [hk]
                    rw [hd]
                    clear hd hk
                    have HG := hide (HF.out.two ((Fr.alloc W1 _ _).two f2))
                    clear f2
                    go_wp2_with (go_at_call 41; refine (given_yes _ _).mono ?_; rintro e w' ⟨rfl, hw⟩; rw [hw]; clear hw)
                    go_ret
                    exact ⟨by rw [HR.out]; exact rfl, HG.out⟩
                  · have HR : Hid (resultK (⟨#[62, 61]⟩ : ByteArray).toList K = none) := hide (by rw [show (⟨#[62, 61]⟩ : ByteArray).toList = [62, 61] from by rw [ByteArray.toList_eq]]; have := HK1.out; simp [resultK, hk, this])
                    have hd : decide (K = [2, 2]) = false := by simp [hk]
                    rw [hd]
                    clear hd hk
                    have HG := hide (HF.out.two ((Fr.alloc W1 _ _).two f2))
                    clear f2
                    go_wp2_with (go_at_call 41; refine (given_no _ _).mono ?_; rintro e w' ⟨rfl, hw⟩; rw [hw]; clear hw)
                    exact ⟨rfl, by rw [HR.out]; exact rfl, HG.out⟩
              · by_cases h7 : op.toList = [60]
                · have h := h7
                  clear h7
                  clear h0 h1 h2 h3 h4 h5 h6
                  have e := ba_of h
                  subst e
                  clear h
                  go_enter Try.func35, Try.ntmps35
                  go_wp2_with fail
                  refine (are_any (w := w.alloc (.cells #[.int .i64 1, .int .i64 1] 3)) a (some ⟨w.heap.size, 0, none⟩) n 2 c 2 K [1, 1] ((HK.out.fr (Fr.refl _ _)).fr (Fr.alloc _ _ _)) (lit_nums w [1, 1]) HN.out rfl hb).mono ?_
                  rintro e W1 ⟨rfl, f1⟩
                  by_cases hk : K = [1, 1]
                  · have HR : Hid (resultK (⟨#[60]⟩ : ByteArray).toList K = some 3) := hide (by rw [show (⟨#[60]⟩ : ByteArray).toList = [60] from by rw [ByteArray.toList_eq]]; simp [resultK, hk])
                    have hd : decide (K = [1, 1]) = true := by simp [hk]
                    rw [hd]
                    clear hd hk
                    have HF := hide ((Fr.alloc w _ _).two f1)
                    clear f1
                    go_wp2_with (go_at_call 41; refine (given_yes _ _).mono ?_; rintro e w' ⟨rfl, hw⟩; rw [hw]; clear hw)
                    go_ret
                    exact ⟨by rw [HR.out]; exact rfl, HF.out⟩
                  · have hd : decide (K = [1, 1]) = false := by simp [hk]
                    rw [hd]
                    clear hd
                    have HF := hide ((Fr.alloc w _ _).two f1)
                    have HK1 := hide hk
                    clear f1 hk
                    go_wp2_with fail
                    refine (are_any (w := W1.alloc (.cells #[.int .i64 2, .int .i64 2] 3)) a (some ⟨W1.heap.size, 0, none⟩) n 2 c 2 K [2, 2] ((HK.out.fr HF.out).fr (Fr.alloc _ _ _)) (lit_nums W1 [2, 2]) HN.out rfl hb).mono ?_
                    rintro e W2 ⟨rfl, f2⟩
                    by_cases hk : K = [2, 2]
                    · have HR : Hid (resultK (⟨#[60]⟩ : ByteArray).toList K = some 3) := hide (by rw [show (⟨#[60]⟩ : ByteArray).toList = [60] from by rw [ByteArray.toList_eq]]; simp [resultK, hk])
                      have hd : decide (K = [2, 2]) = true := by simp [hk]
                      rw [hd]
                      clear hd hk
                      have HG := hide (HF.out.two ((Fr.alloc W1 _ _).two f2))
                      clear f2
                      go_wp2_with (go_at_call 41; refine (given_yes _ _).mono ?_; rintro e w' ⟨rfl, hw⟩; rw [hw]; clear hw)
                      go_ret
                      exact ⟨by rw [HR.out]; exact rfl, HG.out⟩
                    · have HR : Hid (resultK (⟨#[60]⟩ : ByteArray).toList K = none) := hide (by rw [show (⟨#[60]⟩ : ByteArray).toList = [60] from by rw [ByteArray.toList_eq]]; have := HK1.out; simp [resultK, hk, this])
                      have hd : decide (K = [2, 2]) = false := by simp [hk]
                      rw [hd]
                      clear hd hk
                      have HG := hide (HF.out.two ((Fr.alloc W1 _ _).two f2))
                      clear f2
                      go_wp2_with (go_at_call 41; refine (given_no _ _).mono ?_; rintro e w' ⟨rfl, hw⟩; rw [hw]; clear hw)
                      exact ⟨rfl, by rw [HR.out]; exact rfl, HG.out⟩
                · by_cases h8 : op.toList = [62]
                  · have h := h8
                    clear h8
                    clear h0 h1 h2 h3 h4 h5 h6 h7
                    have e := ba_of h
                    subst e
                    clear h
                    go_enter Try.func35, Try.ntmps35
                    go_wp2_with fail
                    refine (are_any (w := w.alloc (.cells #[.int .i64 1, .int .i64 1] 3)) a (some ⟨w.heap.size, 0, none⟩) n 2 c 2 K [1, 1] ((HK.out.fr (Fr.refl _ _)).fr (Fr.alloc _ _ _)) (lit_nums w [1, 1]) HN.out rfl hb).mono ?_
                    rintro e W1 ⟨rfl, f1⟩
                    by_cases hk : K = [1, 1]
                    · have HR : Hid (resultK (⟨#[62]⟩ : ByteArray).toList K = some 3) := hide (by rw [show (⟨#[62]⟩ : ByteArray).toList = [62] from by rw [ByteArray.toList_eq]]; simp [resultK, hk])
                      have hd : decide (K = [1, 1]) = true := by simp [hk]
                      rw [hd]
                      clear hd hk
                      have HF := hide ((Fr.alloc w _ _).two f1)
                      clear f1
                      go_wp2_with (go_at_call 41; refine (given_yes _ _).mono ?_; rintro e w' ⟨rfl, hw⟩; rw [hw]; clear hw)
                      go_ret
                      exact ⟨by rw [HR.out]; exact rfl, HF.out⟩
                    · have hd : decide (K = [1, 1]) = false := by simp [hk]
                      rw [hd]
                      clear hd
                      have HF := hide ((Fr.alloc w _ _).two f1)
                      have HK1 := hide hk
                      clear f1 hk
                      go_wp2_with fail
                      refine (are_any (w := W1.alloc (.cells #[.int .i64 2, .int .i64 2] 3)) a (some ⟨W1.heap.size, 0, none⟩) n 2 c 2 K [2, 2] ((HK.out.fr HF.out).fr (Fr.alloc _ _ _)) (lit_nums W1 [2, 2]) HN.out rfl hb).mono ?_
                      rintro e W2 ⟨rfl, f2⟩
                      by_cases hk : K = [2, 2]
                      · have HR : Hid (resultK (⟨#[62]⟩ : ByteArray).toList K = some 3) := hide (by rw [show (⟨#[62]⟩ : ByteArray).toList = [62] from by rw [ByteArray.toList_eq]]; simp [resultK, hk])
                        have hd : decide (K = [2, 2]) = true := by simp [hk]
                        rw [hd]
                        clear hd hk
                        have HG := hide (HF.out.two ((Fr.alloc W1 _ _).two f2))
                        clear f2
                        go_wp2_with (go_at_call 41; refine (given_yes _ _).mono ?_; rintro e w' ⟨rfl, hw⟩; rw [hw]; clear hw)
                        go_ret
                        exact ⟨by rw [HR.out]; exact rfl, HG.out⟩
                      · have HR : Hid (resultK (⟨#[62]⟩ : ByteArray).toList K = none) := hide (by rw [show (⟨#[62]⟩ : ByteArray).toList = [62] from by rw [ByteArray.toList_eq]]; have := HK1.out; simp [resultK, hk, this])
                        have hd : decide (K = [2, 2]) = false := by simp [hk]
                        rw [hd]
                        clear hd hk
                        have HG := hide (HF.out.two ((Fr.alloc W1 _ _).two f2))
                        clear f2
                        go_wp2_with (go_at_call 41; refine (given_no _ _).mono ?_; rintro e w' ⟨rfl, hw⟩; rw [hw]; clear hw)
                        exact ⟨rfl, by rw [HR.out]; exact rfl, HG.out⟩
                  · by_cases h9 : op.toList = [43]
                    · have h := h9
                      clear h9
                      clear h0 h1 h2 h3 h4 h5 h6 h7 h8
                      have e := ba_of h
                      subst e
                      clear h
                      go_enter Try.func35, Try.ntmps35
                      go_wp2_with fail
                      refine (are_any (w := w.alloc (.cells #[.int .i64 1, .int .i64 1] 3)) a (some ⟨w.heap.size, 0, none⟩) n 2 c 2 K [1, 1] ((HK.out.fr (Fr.refl _ _)).fr (Fr.alloc _ _ _)) (lit_nums w [1, 1]) HN.out rfl hb).mono ?_
                      rintro e W1 ⟨rfl, f1⟩
                      by_cases hk : K = [1, 1]
                      · have HR : Hid (resultK (⟨#[43]⟩ : ByteArray).toList K = some 1) := hide (by rw [show (⟨#[43]⟩ : ByteArray).toList = [43] from by rw [ByteArray.toList_eq]]; simp [resultK, hk])
                        have hd : decide (K = [1, 1]) = true := by simp [hk]
                        rw [hd]
                        clear hd hk
                        have HF := hide ((Fr.alloc w _ _).two f1)
                        clear f1
                        go_wp2_with (go_at_call 41; refine (given_yes _ _).mono ?_; rintro e w' ⟨rfl, hw⟩; rw [hw]; clear hw)
                        go_ret
                        exact ⟨by rw [HR.out]; exact rfl, HF.out⟩
                      · have hd : decide (K = [1, 1]) = false := by simp [hk]
                        rw [hd]
                        clear hd
                        have HR : Hid (resultK (⟨#[43]⟩ : ByteArray).toList K = none) := hide (by rw [show (⟨#[43]⟩ : ByteArray).toList = [43] from by rw [ByteArray.toList_eq]]; simp [resultK, hk])
                        have HF := hide ((Fr.alloc w _ _).two f1)
                        clear f1 hk
                        go_wp2_with (go_at_call 41; refine (given_no _ _).mono ?_; rintro e w' ⟨rfl, hw⟩; rw [hw]; clear hw)
                        exact ⟨rfl, by rw [HR.out]; exact rfl, HF.out⟩
                    · by_cases h10 : op.toList = [42]
                      · have h := h10
                        clear h10
                        clear h0 h1 h2 h3 h4 h5 h6 h7 h8 h9
                        have e := ba_of h
                        subst e
                        clear h
                        go_enter Try.func35, Try.ntmps35
                        go_wp2_with fail
                        refine (are_any (w := w.alloc (.cells #[.int .i64 1, .int .i64 1] 3)) a (some ⟨w.heap.size, 0, none⟩) n 2 c 2 K [1, 1] ((HK.out.fr (Fr.refl _ _)).fr (Fr.alloc _ _ _)) (lit_nums w [1, 1]) HN.out rfl hb).mono ?_
                        rintro e W1 ⟨rfl, f1⟩
                        by_cases hk : K = [1, 1]
                        · have HR : Hid (resultK (⟨#[42]⟩ : ByteArray).toList K = some 1) := hide (by rw [show (⟨#[42]⟩ : ByteArray).toList = [42] from by rw [ByteArray.toList_eq]]; simp [resultK, hk])
                          have hd : decide (K = [1, 1]) = true := by simp [hk]
                          rw [hd]
                          clear hd hk
                          have HF := hide ((Fr.alloc w _ _).two f1)
                          clear f1
                          go_wp2_with (go_at_call 41; refine (given_yes _ _).mono ?_; rintro e w' ⟨rfl, hw⟩; rw [hw]; clear hw)
                          go_ret
                          exact ⟨by rw [HR.out]; exact rfl, HF.out⟩
                        · have hd : decide (K = [1, 1]) = false := by simp [hk]
                          rw [hd]
                          clear hd
                          have HR : Hid (resultK (⟨#[42]⟩ : ByteArray).toList K = none) := hide (by rw [show (⟨#[42]⟩ : ByteArray).toList = [42] from by rw [ByteArray.toList_eq]]; simp [resultK, hk])
                          have HF := hide ((Fr.alloc w _ _).two f1)
                          clear f1 hk
                          go_wp2_with (go_at_call 41; refine (given_no _ _).mono ?_; rintro e w' ⟨rfl, hw⟩; rw [hw]; clear hw)
                          exact ⟨rfl, by rw [HR.out]; exact rfl, HF.out⟩
                      · by_cases h11 : op.toList = [45]
                        · have h := h11
                          clear h11
                          clear h0 h1 h2 h3 h4 h5 h6 h7 h8 h9 h10
                          have e := ba_of h
                          subst e
                          clear h
                          go_enter Try.func35, Try.ntmps35
                          go_wp2_with fail
                          refine (are_any (w := w.alloc (.cells #[.int .i64 1] 3)) a (some ⟨w.heap.size, 0, none⟩) n 1 c 1 K [1] ((HK.out.fr (Fr.refl _ _)).fr (Fr.alloc _ _ _)) (lit_nums w [1]) HN.out rfl hb).mono ?_
                          rintro e W1 ⟨rfl, f1⟩
                          by_cases hk : K = [1]
                          · have HR : Hid (resultK (⟨#[45]⟩ : ByteArray).toList K = some 1) := hide (by rw [show (⟨#[45]⟩ : ByteArray).toList = [45] from by rw [ByteArray.toList_eq]]; simp [resultK, hk])
                            have hd : decide (K = [1]) = true := by simp [hk]
                            rw [hd]
                            clear hd hk
                            have HF := hide ((Fr.alloc w _ _).two f1)
                            clear f1
                            go_wp2_with (go_at_call 41; refine (given_yes _ _).mono ?_; rintro e w' ⟨rfl, hw⟩; rw [hw]; clear hw)
                            go_ret
                            exact ⟨by rw [HR.out]; exact rfl, HF.out⟩
                          · have hd : decide (K = [1]) = false := by simp [hk]
                            rw [hd]
                            clear hd
                            have HF := hide ((Fr.alloc w _ _).two f1)
                            have HK1 := hide hk
                            clear f1 hk
                            go_wp2_with fail
                            refine (are_any (w := W1.alloc (.cells #[.int .i64 1, .int .i64 1] 3)) a (some ⟨W1.heap.size, 0, none⟩) n 2 c 2 K [1, 1] ((HK.out.fr HF.out).fr (Fr.alloc _ _ _)) (lit_nums W1 [1, 1]) HN.out rfl hb).mono ?_
                            rintro e W2 ⟨rfl, f2⟩
                            by_cases hk : K = [1, 1]
                            · have HR : Hid (resultK (⟨#[45]⟩ : ByteArray).toList K = some 1) := hide (by rw [show (⟨#[45]⟩ : ByteArray).toList = [45] from by rw [ByteArray.toList_eq]]; simp [resultK, hk])
                              have hd : decide (K = [1, 1]) = true := by simp [hk]
                              rw [hd]
                              clear hd hk
                              have HG := hide (HF.out.two ((Fr.alloc W1 _ _).two f2))
                              clear f2
                              go_wp2_with (go_at_call 41; refine (given_yes _ _).mono ?_; rintro e w' ⟨rfl, hw⟩; rw [hw]; clear hw)
                              go_ret
                              exact ⟨by rw [HR.out]; exact rfl, HG.out⟩
                            · have HR : Hid (resultK (⟨#[45]⟩ : ByteArray).toList K = none) := hide (by rw [show (⟨#[45]⟩ : ByteArray).toList = [45] from by rw [ByteArray.toList_eq]]; have := HK1.out; simp [resultK, hk, this])
                              have hd : decide (K = [1, 1]) = false := by simp [hk]
                              rw [hd]
                              clear hd hk
                              have HG := hide (HF.out.two ((Fr.alloc W1 _ _).two f2))
                              clear f2
                              go_wp2_with (go_at_call 41; refine (given_no _ _).mono ?_; rintro e w' ⟨rfl, hw⟩; rw [hw]; clear hw)
                              exact ⟨rfl, by rw [HR.out]; exact rfl, HG.out⟩
                        · have HR : Hid (resultK op.toList K = none) := hide (by simp [resultK, h0, h1, h2, h3, h4, h5, h6, h7, h8, h9, h10, h11])
                          have b0 : (op.toList == [79, 82]) = false := by simp [h0]
                          have b1 : (op.toList == [65, 78, 68]) = false := by simp [h1]
                          have b2 : (op.toList == [78, 79, 84]) = false := by simp [h2]
                          have b3 : (op.toList == [61]) = false := by simp [h3]
                          have b4 : (op.toList == [60, 62]) = false := by simp [h4]
                          have b5 : (op.toList == [60, 61]) = false := by simp [h5]
                          have b6 : (op.toList == [62, 61]) = false := by simp [h6]
                          have b7 : (op.toList == [60]) = false := by simp [h7]
                          have b8 : (op.toList == [62]) = false := by simp [h8]
                          have b9 : (op.toList == [43]) = false := by simp [h9]
                          have b10 : (op.toList == [42]) = false := by simp [h10]
                          have b11 : (op.toList == [45]) = false := by simp [h11]
                          clear h0 h1 h2 h3 h4 h5 h6 h7 h8 h9 h10 h11
                          go_enter Try.func35, Try.ntmps35
                          go_wp2_with (go_at_call 41; refine (given_no _ _).mono ?_; rintro e w' ⟨rfl, hw⟩; rw [hw]; clear hw)
                          exact ⟨rfl, by rw [HR.out]; exact rfl, Fr.refl _ _⟩
end Go.Proofs.Ytbcmgodpplapaaa
