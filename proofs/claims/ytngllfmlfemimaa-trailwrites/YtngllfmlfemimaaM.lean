/- The document's Decode. -/
import Derived.Test.YtngllfmlfemimaaK
namespace Go.Proofs.Ytngllfmlfemimaa
open Go.RowKit
set_option linter.unusedVariables false

theorem strOf_extract (l : List UInt8) (a b : Nat) : (strOf l).extract a b = strOf ((l.drop a).take (b - a)) := by
  apply ByteArray.ext
  simp [strOf]
theorem slot_eq (l : List UInt8) (v : UInt8) (h : l[11]? = some v) : wi (getB ((l.drop 11).take 1)) = (v.toNat : Int) := by
  have h1 : (l.drop 11).take 1 = [v] := by
    have h2 : (l.drop 11)[0]? = some v := by rw [List.getElem?_drop]; exact h
    cases hd : l.drop 11 with
    | nil => rw [hd] at h2; simp at h2
    | cons x r => rw [hd] at h2; simp at h2; subst h2; rfl
  have hv := v.toNat_lt
  have hv' : v.toNat < 256 := hv
  rw [h1]
  have h3 : getB [v] = v.toNat := by simp [getB]
  unfold wi
  rw [h3]
  exact Go.IntWalk.wrap64_in _ ⟨by omega, by omega⟩
/-- What is common behind the right length: the entry is looked at and told. -/
theorem dcells (w : World) (x0 x1 x2 x3 x4 x5 : Value) : Six ((zdoc w).alloc (.cells #[x0, x1, x2, x3, x4, x5] 32)) (w.heap.size + 1) x0 x1 x2 x3 x4 x5 := by
  have h := six_of (heap_alloc_new (zdoc w) (.cells #[x0, x1, x2, x3, x4, x5] 32))
  rwa [show (zdoc w).heap.size = w.heap.size + 1 by simp [zdoc]] at h

set_option maxRecDepth 100000 in
set_option maxHeartbeats 8000000 in
theorem rdecode_any (l : List UInt8) (w : World) :
    Calls Try.prog 10 #[.string (strOf l)] w fun x w' => x = .returned (.tuple #[docV (decE l), .int .i64 (decC l)]) ∧ Fr w w' (fun _ => False) := by
  have hsz := size_strOf l
  by_cases hn0 : l.length = 0
  · have hs0 := strOf_eq hn0
    have hdc : decC l = 20 := by simp [decC, hn0]
    have HDC := hide hdc
    have HDE := hide (decE_no hdc (by omega))
    clear hdc
    go_enter Try.func10, Try.ntmps10
    go_wp2
    exact bodyPost_ret (results_doc2 Try.results10 _ _ w.heap.size (zdoc_six w) rfl) rfl ⟨by rw [HDC.out, HDE.out]; rfl, zdoc_fr w⟩
  · have hs0 := strOf_ne hn0
    have hs1 : (strOf l).toList.isEmpty = false := by cases hh : (strOf l).toList with | nil => exact absurd hh hs0 | cons x r => rfl
    obtain ⟨u, hu⟩ : ∃ u, l[0]? = some u := ⟨_, List.getElem?_eq_getElem (by omega)⟩
    have hkd : kd l = (u.toNat : Int) := by
      cases l with
      | nil => simp at hu
      | cons b r => simp at hu; subst hu; rfl
    have HKD := hide hkd
    have hgm : (strOf l)[0]'(by rw [hsz]; omega) = u := by
      rw [List.getElem?_eq_getElem (by omega)] at hu
      injection hu
    have hu8 : u.toNat < 256 := u.toNat_lt
    have q0 : ∀ x0 x1 x2 x3 x4 x5, ((zdoc w).alloc (.cells #[x0, x1, x2, x3, x4, x5] 32)).cell? ⟨w.heap.size + 1, 0, none⟩ = some x0 := fun x0 x1 x2 x3 x4 x5 => (dcells w x0 x1 x2 x3 x4 x5).c0
    have q1 : ∀ x0 x1 x2 x3 x4 x5, ((zdoc w).alloc (.cells #[x0, x1, x2, x3, x4, x5] 32)).cell? ⟨w.heap.size + 1, 1, none⟩ = some x1 := fun x0 x1 x2 x3 x4 x5 => (dcells w x0 x1 x2 x3 x4 x5).c1
    unfold zdoc at q0 q1
    clear hu hkd
    go_enter Try.func10, Try.ntmps10
    by_cases hk1 : (u.toNat : Int) < 1
    · have hdc : decC l = 21 := by
        unfold decC; rw [if_neg hn0, HKD.out, if_pos (show kindB _ = false from decide_eq_false (by omega))]
      have HDC := hide hdc
      have HDE := hide (decE_no hdc (by omega))
      clear hdc
      go_wp2
      exact bodyPost_ret (results_doc2 Try.results10 _ _ w.heap.size ((zdoc_six w).fr (Fr.alloc (zdoc w) _ (fun _ => False)) (fun h => h)) rfl) rfl ⟨by rw [HDC.out, HDE.out]; rfl, ((zdoc_fr w).trans (Fr.alloc (zdoc w) _ (fun _ => False))).mono (by simp)⟩
    · by_cases hk2 : 3 < (u.toNat : Int)
      · have hdc : decC l = 21 := by
          unfold decC; rw [if_neg hn0, HKD.out, if_pos (show kindB _ = false from decide_eq_false (by omega))]
        have HDC := hide hdc
        have HDE := hide (decE_no hdc (by omega))
        clear hdc
        go_wp2
        exact bodyPost_ret (results_doc2 Try.results10 _ _ w.heap.size ((zdoc_six w).fr (Fr.alloc (zdoc w) _ (fun _ => False)) (fun h => h)) rfl) rfl ⟨by rw [HDC.out, HDE.out]; rfl, ((zdoc_fr w).trans (Fr.alloc (zdoc w) _ (fun _ => False))).mono (by simp)⟩
      · by_cases hku : (u.toNat : Int) = 3
        · by_cases hl1 : l.length < 17
          · have hdc : decC l = 20 := by
              unfold decC; rw [if_neg hn0, HKD.out, if_neg (by rw [show kindB _ = true from decide_eq_true (by omega)]; simp), if_pos (by unfold needN; split <;> omega)]
            have HDC := hide hdc
            have HDE := hide (decE_no hdc (by omega))
            clear hdc
            go_wp2
            exact bodyPost_ret (results_doc2 Try.results10 _ _ w.heap.size ((zdoc_six w).fr (Fr.alloc (zdoc w) _ (fun _ => False)) (fun h => h)) rfl) rfl ⟨by rw [HDC.out, HDE.out]; rfl, ((zdoc_fr w).trans (Fr.alloc (zdoc w) _ (fun _ => False))).mono (by simp)⟩
          · by_cases hl2 : 17 < l.length
            · have hdc : decC l = 23 := by
                unfold decC; rw [if_neg hn0, HKD.out, if_neg (by rw [show kindB _ = true from decide_eq_true (by omega)]; simp), if_neg (by unfold needN; split <;> omega), if_pos (by unfold needN; split <;> omega)]
              have HDC := hide hdc
              have HDE := hide (decE_no hdc (by omega))
              clear hdc
              go_wp2
              exact bodyPost_ret (results_doc2 Try.results10 _ _ w.heap.size ((zdoc_six w).fr (Fr.alloc (zdoc w) _ (fun _ => False)) (fun h => h)) rfl) rfl ⟨by rw [HDC.out, HDE.out]; rfl, ((zdoc_fr w).trans (Fr.alloc (zdoc w) _ (fun _ => False))).mono (by simp)⟩
            · obtain ⟨d1, hd1⟩ : ∃ d1, d1 = (l.drop 1).take 8 := ⟨_, rfl⟩
              have he1 : (strOf l).extract 1 9 = strOf d1 := by rw [strOf_extract, hd1]
              have hdl1 : d1.length = 8 := by rw [hd1]; simp; omega
              have HD1 := hide hd1
              clear hd1
              obtain ⟨d2, hd2⟩ : ∃ d2, d2 = (l.drop 9).take 8 := ⟨_, rfl⟩
              have he2 : (strOf l).extract 9 17 = strOf d2 := by rw [strOf_extract, hd2]
              have hdl2 : d2.length = 8 := by rw [hd2]; simp; omega
              have HD2 := hide hd2
              clear hd2
              have HDC : Hid (decC l = chk (rdE 3 l)) := by
                show _ = _
                unfold decC
                rw [if_neg hn0, HKD.out, if_neg (by rw [show kindB _ = true from decide_eq_true (by omega)]; simp), if_neg (by unfold needN; split <;> omega), if_neg (by unfold needN; split <;> omega), hku]
              have HX : Hid (chk (rdE 3 l) = 0 → decE l = rdE 3 l) := fun h => by rw [decE, if_pos (by rw [HDC.out]; exact h), HKD.out, hku]
              go_wp2_with fail
              have HE := hide (dcells w (.int .i64 (3)) (.int .i64 (0)) (.int .i64 (0)) (.int .i64 (0)) (.int .i64 (0)) (.string ⟨#[]⟩))
              have HZ := hide ((zdoc_six w).fr (Fr.alloc (zdoc w) (.cells #[.int .i64 (3), .int .i64 (0), .int .i64 (0), .int .i64 (0), .int .i64 (0), .string ⟨#[]⟩] 32) (fun _ => False)) (fun h => h))
              have HF := hide (((zdoc_fr w).trans (Fr.alloc (zdoc w) (.cells #[.int .i64 (3), .int .i64 (0), .int .i64 (0), .int .i64 (0), .int .i64 (0), .string ⟨#[]⟩] 32) (fun _ => False))).mono (Y := fun _ => False) (by simp))
              unfold zdoc at HE HZ HF
              obtain ⟨W1, hW1⟩ : ∃ W1, W1 = (w.alloc (.cells #[.int .i64 0, .int .i64 0, .int .i64 0, .int .i64 0, .int .i64 0, .string ⟨#[]⟩] 32)).alloc (.cells #[.int .i64 (3), .int .i64 (0), .int .i64 (0), .int .i64 (0), .int .i64 (0), .string ⟨#[]⟩] 32) := ⟨_, rfl⟩
              rw [← hW1] at HE HZ HF ⊢
              clear hW1 q0 q1
              obtain ⟨g2, hg2⟩ : ∃ g2, g2 = w.heap.size := ⟨_, rfl⟩
              rw [← hg2] at HE HZ ⊢
              have hg0 : w.heap.size ≤ g2 := by omega
              clear hg2
              refine (refGet_any d1 W1 (by omega)).mono ?_
              rintro x W1' ⟨rfl, hw⟩
              obtain rfl := hw.symm
              clear hw
              obtain ⟨n1, hn1⟩ : ∃ n1, n1 = getB d1 := ⟨_, rfl⟩
              rw [← hn1]
              have HN1 := hide hn1
              clear hn1
              have HE1 := hide (HE.out.set1 (.int .i64 (wrap64 n1)))
              have FS1 := Fr.setCell W1 ⟨g2 + 1, 1, none⟩ (.int .i64 (wrap64 n1))
              have HZ1 := hide (HZ.out.fr FS1 (show ¬ g2 = g2 + 1 by omega))
              have HF1 := hide ((HF.out.trans FS1).mono (Y := fun _ => False) (fun q hq h => by rcases h with h | h; exact h; (simp only [] at h; omega)))
              have e1 := HE.out.c1
              have f1 := HE.out.z 1
              have x0 := HE1.out.c0
              clear FS1
              go_wp2_with fail
              generalize W1.setCell ⟨g2 + 1, 1, none⟩ (.int .i64 (wrap64 n1)) = W2 at *
              clear e1 f1 x0 HE HZ HF
              refine (refGet_any d2 W2 (by omega)).mono ?_
              rintro x W2' ⟨rfl, hw⟩
              obtain rfl := hw.symm
              clear hw
              obtain ⟨n2, hn2⟩ : ∃ n2, n2 = getB d2 := ⟨_, rfl⟩
              rw [← hn2]
              have HN2 := hide hn2
              clear hn2
              have HE2 := hide (HE1.out.set4 (.int .i64 (wrap64 n2)))
              have FS2 := Fr.setCell W2 ⟨g2 + 1, 4, none⟩ (.int .i64 (wrap64 n2))
              have e4 := HE1.out.c4
              have f4 := HE1.out.z 4
              have HZ2 := hide (HZ1.out.fr FS2 (show ¬ g2 = g2 + 1 by omega))
              have HF2 := hide ((HF1.out.trans FS2).mono (Y := fun _ => False) (fun q hq h => by rcases h with h | h; exact h; (simp only [] at h; omega)))
              clear FS2
              have x0 := HE2.out.c0
              have x1 := HE2.out.c1
              have x2 := HE2.out.c2
              have x3 := HE2.out.c3
              have x4 := HE2.out.c4
              have x5 := HE2.out.c5
              go_wp2_with fail
              generalize W2.setCell ⟨g2 + 1, 4, none⟩ (.int .i64 (wrap64 n2)) = W3 at *
              clear e4 f4 x0 x1 x2 x3 x4 x5 HE1 HZ1 HF1
              have HRD := hide (show rdE 3 l = (⟨3, wrap64 n1, 0, 0, wrap64 n2, []⟩ : Ent) from by unfold rdE wi; rw [if_pos rfl, ← HD1.out, ← HD2.out, ← HN1.out, ← HN2.out])
              have hck := rcheck_any (⟨3, wrap64 n1, 0, 0, wrap64 n2, []⟩ : Ent)
              unfold docV at hck
              simp only [strOf_nil] at hck
              rw [HRD.out] at HDC HX
              refine (hck _).mono ?_
              rintro x W ⟨rfl, f⟩
              replace HE2 := hide (HE2.out.fr f (fun h => h))
              replace HZ2 := hide (HZ2.out.fr f (fun h => h))
              replace HF2 := hide ((HF2.out.trans f).mono (Y := fun _ => False) (by simp))
              clear f hck
              obtain ⟨ck, hck⟩ : ∃ ck, ck = chk (⟨3, wrap64 n1, 0, 0, wrap64 n2, []⟩ : Ent) := ⟨_, rfl⟩
              rw [← hck] at HDC HX ⊢
              clear hck
              by_cases hc0 : ck = 0
              · have HDE := hide (HX.out hc0)
                subst hc0
                have HZ3 := hide (HZ2.out.fill (.int .i64 (3)) (.int .i64 (wrap64 n1)) (.int .i64 (0)) (.int .i64 (0)) (.int .i64 (wrap64 n2)) (.string ⟨#[]⟩))
                have HF3 := hide ((HF2.out.trans (fill_fr W g2 (.int .i64 (3)) (.int .i64 (wrap64 n1)) (.int .i64 (0)) (.int .i64 (0)) (.int .i64 (wrap64 n2)) (.string ⟨#[]⟩))).mono (Y := fun _ => False) (fun q hq h => by rcases h with h | h; exact h; omega))
                have x0 := HE2.out.c0
                have x1 := HE2.out.c1
                have x2 := HE2.out.c2
                have x3 := HE2.out.c3
                have x4 := HE2.out.c4
                have x5 := HE2.out.c5
                have y0 := HZ2.out.c0
                have y1 := HZ2.out.c1
                have y2 := HZ2.out.c2
                have y3 := HZ2.out.c3
                have y4 := HZ2.out.c4
                have y5 := HZ2.out.c5
                have zy0 := HZ2.out.z 0
                have zy1 := HZ2.out.z 1
                have zy2 := HZ2.out.z 2
                have zy3 := HZ2.out.z 3
                have zy4 := HZ2.out.z 4
                have zy5 := HZ2.out.z 5
                go_wp2
                exact bodyPost_ret (results_doc2 Try.results10 _ _ g2 HZ3.out rfl) rfl ⟨by rw [HDC.out, HDE.out]; rfl, HF3.out⟩
              · have HDE := hide (decE_no HDC.out hc0)
                have HZ3 := hide (HZ2.out.fill (.int .i64 0) (.int .i64 0) (.int .i64 0) (.int .i64 0) (.int .i64 0) (.string ⟨#[]⟩))
                have HF3 := hide ((HF2.out.trans (fill_fr W g2 (.int .i64 0) (.int .i64 0) (.int .i64 0) (.int .i64 0) (.int .i64 0) (.string ⟨#[]⟩))).mono (Y := fun _ => False) (fun q hq h => by rcases h with h | h; exact h; omega))
                have y0 := HZ2.out.c0
                have y1 := HZ2.out.c1
                have y2 := HZ2.out.c2
                have y3 := HZ2.out.c3
                have y4 := HZ2.out.c4
                have y5 := HZ2.out.c5
                have zy0 := HZ2.out.z 0
                have zy1 := HZ2.out.z 1
                have zy2 := HZ2.out.z 2
                have zy3 := HZ2.out.z 3
                have zy4 := HZ2.out.z 4
                have zy5 := HZ2.out.z 5
                go_wp2
                exact bodyPost_ret (results_doc2 Try.results10 _ _ g2 HZ3.out rfl) rfl ⟨by rw [HDC.out, HDE.out]; rfl, HF3.out⟩
        · by_cases hl1 : l.length < 12
          · have hdc : decC l = 20 := by
              unfold decC; rw [if_neg hn0, HKD.out, if_neg (by rw [show kindB _ = true from decide_eq_true (by omega)]; simp), if_pos (by unfold needN; split <;> omega)]
            have HDC := hide hdc
            have HDE := hide (decE_no hdc (by omega))
            clear hdc
            go_wp2
            exact bodyPost_ret (results_doc2 Try.results10 _ _ w.heap.size ((zdoc_six w).fr (Fr.alloc (zdoc w) _ (fun _ => False)) (fun h => h)) rfl) rfl ⟨by rw [HDC.out, HDE.out]; rfl, ((zdoc_fr w).trans (Fr.alloc (zdoc w) _ (fun _ => False))).mono (by simp)⟩
          · by_cases hl2 : 12 < l.length
            · by_cases hu1 : (u.toNat : Int) = 1
              · have hku := hu1
                obtain ⟨d1, hd1⟩ : ∃ d1, d1 = (l.drop 1).take 8 := ⟨_, rfl⟩
                have he1 : (strOf l).extract 1 9 = strOf d1 := by rw [strOf_extract, hd1]
                have hdl1 : d1.length = 8 := by rw [hd1]; simp; omega
                have HD1 := hide hd1
                clear hd1
                obtain ⟨d2, hd2⟩ : ∃ d2, d2 = (l.drop 9).take 2 := ⟨_, rfl⟩
                have he2 : (strOf l).extract 9 11 = strOf d2 := by rw [strOf_extract, hd2]
                have hdl2 : d2.length = 2 := by rw [hd2]; simp; omega
                have HD2 := hide hd2
                clear hd2
                obtain ⟨d3, hd3⟩ : ∃ d3, d3 = l.drop 12 := ⟨_, rfl⟩
                have he3 : (strOf l).extract 12 l.length = strOf d3 := by rw [strOf_extract, hd3, List.take_of_length_le (by rw [List.length_drop]; omega)]
                have HD3 := hide hd3
                clear hd3
                obtain ⟨v, hv⟩ : ∃ v, l[11]? = some v := ⟨_, List.getElem?_eq_getElem (by omega)⟩
                have hgv : (strOf l)[11]'(by rw [hsz]; omega) = v := by
                  rw [List.getElem?_eq_getElem (by omega)] at hv
                  injection hv
                have hv8 : v.toNat < 256 := v.toNat_lt
                have HSL := hide (slot_eq l v hv)
                clear hv
                have HDC : Hid (decC l = chk (rdE 1 l)) := by
                  show _ = _
                  unfold decC
                  rw [if_neg hn0, HKD.out, if_neg (by rw [show kindB _ = true from decide_eq_true (by omega)]; simp), if_neg (by unfold needN; split <;> omega), if_neg (by unfold needN; split <;> omega), hku]
                have HX : Hid (chk (rdE 1 l) = 0 → decE l = rdE 1 l) := fun h => by rw [decE, if_pos (by rw [HDC.out]; exact h), HKD.out, hku]
                go_wp2_with fail
                have HE := hide (dcells w (.int .i64 (1)) (.int .i64 (0)) (.int .i64 (0)) (.int .i64 (0)) (.int .i64 (0)) (.string ⟨#[]⟩))
                have HZ := hide ((zdoc_six w).fr (Fr.alloc (zdoc w) (.cells #[.int .i64 (1), .int .i64 (0), .int .i64 (0), .int .i64 (0), .int .i64 (0), .string ⟨#[]⟩] 32) (fun _ => False)) (fun h => h))
                have HF := hide (((zdoc_fr w).trans (Fr.alloc (zdoc w) (.cells #[.int .i64 (1), .int .i64 (0), .int .i64 (0), .int .i64 (0), .int .i64 (0), .string ⟨#[]⟩] 32) (fun _ => False))).mono (Y := fun _ => False) (by simp))
                unfold zdoc at HE HZ HF
                obtain ⟨W1, hW1⟩ : ∃ W1, W1 = (w.alloc (.cells #[.int .i64 0, .int .i64 0, .int .i64 0, .int .i64 0, .int .i64 0, .string ⟨#[]⟩] 32)).alloc (.cells #[.int .i64 (1), .int .i64 (0), .int .i64 (0), .int .i64 (0), .int .i64 (0), .string ⟨#[]⟩] 32) := ⟨_, rfl⟩
                rw [← hW1] at HE HZ HF ⊢
                clear hW1 q0 q1
                obtain ⟨g2, hg2⟩ : ∃ g2, g2 = w.heap.size := ⟨_, rfl⟩
                rw [← hg2] at HE HZ ⊢
                have hg0 : w.heap.size ≤ g2 := by omega
                clear hg2
                refine (refGet_any d1 W1 (by omega)).mono ?_
                rintro x W1' ⟨rfl, hw⟩
                obtain rfl := hw.symm
                clear hw
                obtain ⟨n1, hn1⟩ : ∃ n1, n1 = getB d1 := ⟨_, rfl⟩
                rw [← hn1]
                have HN1 := hide hn1
                clear hn1
                have HE1 := hide (HE.out.set1 (.int .i64 (wrap64 n1)))
                have FS1 := Fr.setCell W1 ⟨g2 + 1, 1, none⟩ (.int .i64 (wrap64 n1))
                have HZ1 := hide (HZ.out.fr FS1 (show ¬ g2 = g2 + 1 by omega))
                have HF1 := hide ((HF.out.trans FS1).mono (Y := fun _ => False) (fun q hq h => by rcases h with h | h; exact h; (simp only [] at h; omega)))
                have e1 := HE.out.c1
                have f1 := HE.out.z 1
                have x0 := HE1.out.c0
                clear FS1
                go_wp2_with fail
                generalize W1.setCell ⟨g2 + 1, 1, none⟩ (.int .i64 (wrap64 n1)) = W2 at *
                clear e1 f1 x0 HE HZ HF
                refine (refGet_any d2 W2 (by omega)).mono ?_
                rintro x W2' ⟨rfl, hw⟩
                obtain rfl := hw.symm
                clear hw
                obtain ⟨n2, hn2⟩ : ∃ n2, n2 = getB d2 := ⟨_, rfl⟩
                rw [← hn2]
                have HN2 := hide hn2
                clear hn2
                have HEa := hide (HE1.out.set2 (.int .i64 (wrap64 n2)))
                have HEb := hide (HEa.out.set3 (.int .i64 (v.toNat : Int)))
                have HE2 := hide (HEb.out.set5 (.string (strOf d3)))
                have FS2 := ((Fr.setCell W2 ⟨g2 + 1, 2, none⟩ (.int .i64 (wrap64 n2))).trans (Fr.setCell _ ⟨g2 + 1, 3, none⟩ (.int .i64 (v.toNat : Int)))).trans (Fr.setCell _ ⟨g2 + 1, 5, none⟩ (.string (strOf d3)))
                have e2 := HE1.out.c2
                have f2 := HE1.out.z 2
                have e3 := HEa.out.c3
                have f3 := HEa.out.z 3
                have e5 := HEb.out.c5
                have f5 := HEb.out.z 5
                clear HEa HEb
                have HZ2 := hide (HZ1.out.fr FS2 (show ¬ ((g2 = g2 + 1 ∨ g2 = g2 + 1) ∨ g2 = g2 + 1) by omega))
                have HF2 := hide ((HF1.out.trans FS2).mono (Y := fun _ => False) (fun q hq h => by rcases h with h | h; exact h; (simp only [] at h; omega)))
                clear FS2
                have x0 := HE2.out.c0
                have x1 := HE2.out.c1
                have x2 := HE2.out.c2
                have x3 := HE2.out.c3
                have x4 := HE2.out.c4
                have x5 := HE2.out.c5
                go_wp2_with fail
                generalize ((W2.setCell ⟨g2 + 1, 2, none⟩ (.int .i64 (wrap64 n2))).setCell ⟨g2 + 1, 3, none⟩ (.int .i64 (v.toNat : Int))).setCell ⟨g2 + 1, 5, none⟩ (.string (strOf d3)) = W3 at *
                clear e2 f2 e3 f3 e5 f5 x0 x1 x2 x3 x4 x5 HE1 HZ1 HF1
                have HRD := hide (show rdE 1 l = (⟨1, wrap64 n1, wrap64 n2, (v.toNat : Int), 0, d3⟩ : Ent) from by unfold rdE; rw [if_neg (by omega), HSL.out]; unfold wi; rw [← HD1.out, ← HD2.out, ← HD3.out, ← HN1.out, ← HN2.out])
                have hck := rcheck_any (⟨1, wrap64 n1, wrap64 n2, (v.toNat : Int), 0, d3⟩ : Ent)
                unfold docV at hck
                skip
                rw [HRD.out] at HDC HX
                refine (hck _).mono ?_
                rintro x W ⟨rfl, f⟩
                replace HE2 := hide (HE2.out.fr f (fun h => h))
                replace HZ2 := hide (HZ2.out.fr f (fun h => h))
                replace HF2 := hide ((HF2.out.trans f).mono (Y := fun _ => False) (by simp))
                clear f hck
                obtain ⟨ck, hck⟩ : ∃ ck, ck = chk (⟨1, wrap64 n1, wrap64 n2, (v.toNat : Int), 0, d3⟩ : Ent) := ⟨_, rfl⟩
                rw [← hck] at HDC HX ⊢
                clear hck
                by_cases hc0 : ck = 0
                · have HDE := hide (HX.out hc0)
                  subst hc0
                  have HZ3 := hide (HZ2.out.fill (.int .i64 (1)) (.int .i64 (wrap64 n1)) (.int .i64 (wrap64 n2)) (.int .i64 ((v.toNat : Int))) (.int .i64 (0)) (.string (strOf d3)))
                  have HF3 := hide ((HF2.out.trans (fill_fr W g2 (.int .i64 (1)) (.int .i64 (wrap64 n1)) (.int .i64 (wrap64 n2)) (.int .i64 ((v.toNat : Int))) (.int .i64 (0)) (.string (strOf d3)))).mono (Y := fun _ => False) (fun q hq h => by rcases h with h | h; exact h; omega))
                  have x0 := HE2.out.c0
                  have x1 := HE2.out.c1
                  have x2 := HE2.out.c2
                  have x3 := HE2.out.c3
                  have x4 := HE2.out.c4
                  have x5 := HE2.out.c5
                  have y0 := HZ2.out.c0
                  have y1 := HZ2.out.c1
                  have y2 := HZ2.out.c2
                  have y3 := HZ2.out.c3
                  have y4 := HZ2.out.c4
                  have y5 := HZ2.out.c5
                  have zy0 := HZ2.out.z 0
                  have zy1 := HZ2.out.z 1
                  have zy2 := HZ2.out.z 2
                  have zy3 := HZ2.out.z 3
                  have zy4 := HZ2.out.z 4
                  have zy5 := HZ2.out.z 5
                  go_wp2
                  exact bodyPost_ret (results_doc2 Try.results10 _ _ g2 HZ3.out rfl) rfl ⟨by rw [HDC.out, HDE.out]; rfl, HF3.out⟩
                · have HDE := hide (decE_no HDC.out hc0)
                  have HZ3 := hide (HZ2.out.fill (.int .i64 0) (.int .i64 0) (.int .i64 0) (.int .i64 0) (.int .i64 0) (.string ⟨#[]⟩))
                  have HF3 := hide ((HF2.out.trans (fill_fr W g2 (.int .i64 0) (.int .i64 0) (.int .i64 0) (.int .i64 0) (.int .i64 0) (.string ⟨#[]⟩))).mono (Y := fun _ => False) (fun q hq h => by rcases h with h | h; exact h; omega))
                  have y0 := HZ2.out.c0
                  have y1 := HZ2.out.c1
                  have y2 := HZ2.out.c2
                  have y3 := HZ2.out.c3
                  have y4 := HZ2.out.c4
                  have y5 := HZ2.out.c5
                  have zy0 := HZ2.out.z 0
                  have zy1 := HZ2.out.z 1
                  have zy2 := HZ2.out.z 2
                  have zy3 := HZ2.out.z 3
                  have zy4 := HZ2.out.z 4
                  have zy5 := HZ2.out.z 5
                  go_wp2
                  exact bodyPost_ret (results_doc2 Try.results10 _ _ g2 HZ3.out rfl) rfl ⟨by rw [HDC.out, HDE.out]; rfl, HF3.out⟩
              · have hdc : decC l = 23 := by
                  unfold decC; rw [if_neg hn0, HKD.out, if_neg (by rw [show kindB _ = true from decide_eq_true (by omega)]; simp), if_neg (by unfold needN; split <;> omega), if_pos (by unfold needN; split <;> omega)]
                have HDC := hide hdc
                have HDE := hide (decE_no hdc (by omega))
                clear hdc
                go_wp2
                exact bodyPost_ret (results_doc2 Try.results10 _ _ w.heap.size ((zdoc_six w).fr (Fr.alloc (zdoc w) _ (fun _ => False)) (fun h => h)) rfl) rfl ⟨by rw [HDC.out, HDE.out]; rfl, ((zdoc_fr w).trans (Fr.alloc (zdoc w) _ (fun _ => False))).mono (by simp)⟩
            · obtain ⟨d1, hd1⟩ : ∃ d1, d1 = (l.drop 1).take 8 := ⟨_, rfl⟩
              have he1 : (strOf l).extract 1 9 = strOf d1 := by rw [strOf_extract, hd1]
              have hdl1 : d1.length = 8 := by rw [hd1]; simp; omega
              have HD1 := hide hd1
              clear hd1
              obtain ⟨d2, hd2⟩ : ∃ d2, d2 = (l.drop 9).take 2 := ⟨_, rfl⟩
              have he2 : (strOf l).extract 9 11 = strOf d2 := by rw [strOf_extract, hd2]
              have hdl2 : d2.length = 2 := by rw [hd2]; simp; omega
              have HD2 := hide hd2
              clear hd2
              obtain ⟨d3, hd3⟩ : ∃ d3, d3 = l.drop 12 := ⟨_, rfl⟩
              have he3 : (strOf l).extract 12 l.length = strOf d3 := by rw [strOf_extract, hd3, List.take_of_length_le (by rw [List.length_drop]; omega)]
              have HD3 := hide hd3
              clear hd3
              obtain ⟨v, hv⟩ : ∃ v, l[11]? = some v := ⟨_, List.getElem?_eq_getElem (by omega)⟩
              have hgv : (strOf l)[11]'(by rw [hsz]; omega) = v := by
                rw [List.getElem?_eq_getElem (by omega)] at hv
                injection hv
              have hv8 : v.toNat < 256 := v.toNat_lt
              have HSL := hide (slot_eq l v hv)
              clear hv
              have HDC : Hid (decC l = chk (rdE (u.toNat : Int) l)) := by
                show _ = _
                unfold decC
                rw [if_neg hn0, HKD.out, if_neg (by rw [show kindB _ = true from decide_eq_true (by omega)]; simp), if_neg (by unfold needN; split <;> omega), if_neg (by unfold needN; split <;> omega)]
              have HX : Hid (chk (rdE (u.toNat : Int) l) = 0 → decE l = rdE (u.toNat : Int) l) := fun h => by rw [decE, if_pos (by rw [HDC.out]; exact h), HKD.out]
              go_wp2_with fail
              have HE := hide (dcells w (.int .i64 ((u.toNat : Int))) (.int .i64 (0)) (.int .i64 (0)) (.int .i64 (0)) (.int .i64 (0)) (.string ⟨#[]⟩))
              have HZ := hide ((zdoc_six w).fr (Fr.alloc (zdoc w) (.cells #[.int .i64 ((u.toNat : Int)), .int .i64 (0), .int .i64 (0), .int .i64 (0), .int .i64 (0), .string ⟨#[]⟩] 32) (fun _ => False)) (fun h => h))
              have HF := hide (((zdoc_fr w).trans (Fr.alloc (zdoc w) (.cells #[.int .i64 ((u.toNat : Int)), .int .i64 (0), .int .i64 (0), .int .i64 (0), .int .i64 (0), .string ⟨#[]⟩] 32) (fun _ => False))).mono (Y := fun _ => False) (by simp))
              unfold zdoc at HE HZ HF
              obtain ⟨W1, hW1⟩ : ∃ W1, W1 = (w.alloc (.cells #[.int .i64 0, .int .i64 0, .int .i64 0, .int .i64 0, .int .i64 0, .string ⟨#[]⟩] 32)).alloc (.cells #[.int .i64 ((u.toNat : Int)), .int .i64 (0), .int .i64 (0), .int .i64 (0), .int .i64 (0), .string ⟨#[]⟩] 32) := ⟨_, rfl⟩
              rw [← hW1] at HE HZ HF ⊢
              clear hW1 q0 q1
              obtain ⟨g2, hg2⟩ : ∃ g2, g2 = w.heap.size := ⟨_, rfl⟩
              rw [← hg2] at HE HZ ⊢
              have hg0 : w.heap.size ≤ g2 := by omega
              clear hg2
              refine (refGet_any d1 W1 (by omega)).mono ?_
              rintro x W1' ⟨rfl, hw⟩
              obtain rfl := hw.symm
              clear hw
              obtain ⟨n1, hn1⟩ : ∃ n1, n1 = getB d1 := ⟨_, rfl⟩
              rw [← hn1]
              have HN1 := hide hn1
              clear hn1
              have HE1 := hide (HE.out.set1 (.int .i64 (wrap64 n1)))
              have FS1 := Fr.setCell W1 ⟨g2 + 1, 1, none⟩ (.int .i64 (wrap64 n1))
              have HZ1 := hide (HZ.out.fr FS1 (show ¬ g2 = g2 + 1 by omega))
              have HF1 := hide ((HF.out.trans FS1).mono (Y := fun _ => False) (fun q hq h => by rcases h with h | h; exact h; (simp only [] at h; omega)))
              have e1 := HE.out.c1
              have f1 := HE.out.z 1
              have x0 := HE1.out.c0
              clear FS1
              go_wp2_with fail
              generalize W1.setCell ⟨g2 + 1, 1, none⟩ (.int .i64 (wrap64 n1)) = W2 at *
              clear e1 f1 x0 HE HZ HF
              refine (refGet_any d2 W2 (by omega)).mono ?_
              rintro x W2' ⟨rfl, hw⟩
              obtain rfl := hw.symm
              clear hw
              obtain ⟨n2, hn2⟩ : ∃ n2, n2 = getB d2 := ⟨_, rfl⟩
              rw [← hn2]
              have HN2 := hide hn2
              clear hn2
              have HEa := hide (HE1.out.set2 (.int .i64 (wrap64 n2)))
              have HEb := hide (HEa.out.set3 (.int .i64 (v.toNat : Int)))
              have HE2 := hide (HEb.out.set5 (.string (strOf d3)))
              have FS2 := ((Fr.setCell W2 ⟨g2 + 1, 2, none⟩ (.int .i64 (wrap64 n2))).trans (Fr.setCell _ ⟨g2 + 1, 3, none⟩ (.int .i64 (v.toNat : Int)))).trans (Fr.setCell _ ⟨g2 + 1, 5, none⟩ (.string (strOf d3)))
              have e2 := HE1.out.c2
              have f2 := HE1.out.z 2
              have e3 := HEa.out.c3
              have f3 := HEa.out.z 3
              have e5 := HEb.out.c5
              have f5 := HEb.out.z 5
              clear HEa HEb
              have HZ2 := hide (HZ1.out.fr FS2 (show ¬ ((g2 = g2 + 1 ∨ g2 = g2 + 1) ∨ g2 = g2 + 1) by omega))
              have HF2 := hide ((HF1.out.trans FS2).mono (Y := fun _ => False) (fun q hq h => by rcases h with h | h; exact h; (simp only [] at h; omega)))
              clear FS2
              have x0 := HE2.out.c0
              have x1 := HE2.out.c1
              have x2 := HE2.out.c2
              have x3 := HE2.out.c3
              have x4 := HE2.out.c4
              have x5 := HE2.out.c5
              go_wp2_with fail
              generalize ((W2.setCell ⟨g2 + 1, 2, none⟩ (.int .i64 (wrap64 n2))).setCell ⟨g2 + 1, 3, none⟩ (.int .i64 (v.toNat : Int))).setCell ⟨g2 + 1, 5, none⟩ (.string (strOf d3)) = W3 at *
              clear e2 f2 e3 f3 e5 f5 x0 x1 x2 x3 x4 x5 HE1 HZ1 HF1
              have HRD := hide (show rdE (u.toNat : Int) l = (⟨(u.toNat : Int), wrap64 n1, wrap64 n2, (v.toNat : Int), 0, d3⟩ : Ent) from by unfold rdE; rw [if_neg (by omega), HSL.out]; unfold wi; rw [← HD1.out, ← HD2.out, ← HD3.out, ← HN1.out, ← HN2.out])
              have hck := rcheck_any (⟨(u.toNat : Int), wrap64 n1, wrap64 n2, (v.toNat : Int), 0, d3⟩ : Ent)
              unfold docV at hck
              skip
              rw [HRD.out] at HDC HX
              refine (hck _).mono ?_
              rintro x W ⟨rfl, f⟩
              replace HE2 := hide (HE2.out.fr f (fun h => h))
              replace HZ2 := hide (HZ2.out.fr f (fun h => h))
              replace HF2 := hide ((HF2.out.trans f).mono (Y := fun _ => False) (by simp))
              clear f hck
              obtain ⟨ck, hck⟩ : ∃ ck, ck = chk (⟨(u.toNat : Int), wrap64 n1, wrap64 n2, (v.toNat : Int), 0, d3⟩ : Ent) := ⟨_, rfl⟩
              rw [← hck] at HDC HX ⊢
              clear hck
              by_cases hc0 : ck = 0
              · have HDE := hide (HX.out hc0)
                subst hc0
                have HZ3 := hide (HZ2.out.fill (.int .i64 ((u.toNat : Int))) (.int .i64 (wrap64 n1)) (.int .i64 (wrap64 n2)) (.int .i64 ((v.toNat : Int))) (.int .i64 (0)) (.string (strOf d3)))
                have HF3 := hide ((HF2.out.trans (fill_fr W g2 (.int .i64 ((u.toNat : Int))) (.int .i64 (wrap64 n1)) (.int .i64 (wrap64 n2)) (.int .i64 ((v.toNat : Int))) (.int .i64 (0)) (.string (strOf d3)))).mono (Y := fun _ => False) (fun q hq h => by rcases h with h | h; exact h; omega))
                have x0 := HE2.out.c0
                have x1 := HE2.out.c1
                have x2 := HE2.out.c2
                have x3 := HE2.out.c3
                have x4 := HE2.out.c4
                have x5 := HE2.out.c5
                have y0 := HZ2.out.c0
                have y1 := HZ2.out.c1
                have y2 := HZ2.out.c2
                have y3 := HZ2.out.c3
                have y4 := HZ2.out.c4
                have y5 := HZ2.out.c5
                have zy0 := HZ2.out.z 0
                have zy1 := HZ2.out.z 1
                have zy2 := HZ2.out.z 2
                have zy3 := HZ2.out.z 3
                have zy4 := HZ2.out.z 4
                have zy5 := HZ2.out.z 5
                go_wp2
                exact bodyPost_ret (results_doc2 Try.results10 _ _ g2 HZ3.out rfl) rfl ⟨by rw [HDC.out, HDE.out]; rfl, HF3.out⟩
              · have HDE := hide (decE_no HDC.out hc0)
                have HZ3 := hide (HZ2.out.fill (.int .i64 0) (.int .i64 0) (.int .i64 0) (.int .i64 0) (.int .i64 0) (.string ⟨#[]⟩))
                have HF3 := hide ((HF2.out.trans (fill_fr W g2 (.int .i64 0) (.int .i64 0) (.int .i64 0) (.int .i64 0) (.int .i64 0) (.string ⟨#[]⟩))).mono (Y := fun _ => False) (fun q hq h => by rcases h with h | h; exact h; omega))
                have y0 := HZ2.out.c0
                have y1 := HZ2.out.c1
                have y2 := HZ2.out.c2
                have y3 := HZ2.out.c3
                have y4 := HZ2.out.c4
                have y5 := HZ2.out.c5
                have zy0 := HZ2.out.z 0
                have zy1 := HZ2.out.z 1
                have zy2 := HZ2.out.z 2
                have zy3 := HZ2.out.z 3
                have zy4 := HZ2.out.z 4
                have zy5 := HZ2.out.z 5
                go_wp2
                exact bodyPost_ret (results_doc2 Try.results10 _ _ g2 HZ3.out rfl) rfl ⟨by rw [HDC.out, HDE.out]; rfl, HF3.out⟩
end Go.Proofs.Ytngllfmlfemimaa
