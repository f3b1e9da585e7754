/- Where a column stands. -/
import Derived.Test.YtdeopneififnnaaC
namespace Go.Proofs.Ytdeopneififnnaa
open Go.RowKit
set_option maxRecDepth 100000
set_option linter.unusedVariables false
set_option linter.unusedSimpArgs false

/-- The first column of a name, or -1. -/
def PlaceAt (s : ByteArray) (C : List Cn) (r : Int) : Prop := (∃ (i : Nat) (x : Cn), C[i]? = some x ∧ x.name = s ∧ (∀ (j : Nat) (y : Cn), j < i → C[j]? = some y → y.name ≠ s) ∧ r = i) ∨ ((∀ x ∈ C, x.name ≠ s) ∧ r = -1)
theorem eqCol_any (c : Cn) (gn : Nat) (s : ByteArray) (w : World) (hs : w.cell? ⟨gn, 0, none⟩ = some (.string s)) : Calls Try.prog 43 #[c.agg, .pointer (some ⟨gn, 0, none⟩)] w fun e w' => ((c.name = s ∧ e = .returned (.bool true)) ∨ (c.name ≠ s ∧ e = .returned (.bool false))) ∧ Fr w w' (fun _ => False) := by
  have b1 := heap_alloc_new w (.cells #[.string c.name, .int .i64 c.kind] 37)
  obtain ⟨w1, hw1⟩ : ∃ w1, w1 = w.alloc (.cells #[.string c.name, .int .i64 c.kind] 37) := ⟨_, rfl⟩
  rw [← hw1] at b1
  have c0 : w1.cell? ⟨w.heap.size, 0, none⟩ = some (.string c.name) := (cell_of_row _ _ _ _ _ _ b1).trans rfl
  have hf : Fr w w1 (fun _ => False) := by rw [hw1]; exact Fr.alloc w _ _
  have c1 := hf.cell (fun h => h) hs
  have HF := hide hf
  have HW := hide hw1
  clear b1 hw1 hf hs
  unfold Cn.agg
  by_cases he : c.name = s
  · have heb : (c.name.toList == s.toList) = true := by simp [he]
    have HE := hide he
    clear he
    go_enter Try.func43, Try.ntmps43
    go_wp2_with (rw [← HW.out]; clear HW)
    go_ret
    exact ⟨.inl ⟨HE.out, rfl⟩, HF.out⟩
  · have heb : (c.name.toList == s.toList) = false := (Go.Lib.bytes_beq_false_iff c.name s).2 he
    have hnl : ¬ (c.name.toList = s.toList) := by simpa using heb
    have HE := hide he
    clear he
    go_enter Try.func43, Try.ntmps43
    go_wp2_with (rw [← HW.out]; clear HW)
    go_ret
    exact ⟨.inr ⟨HE.out, rfl⟩, HF.out⟩
set_option maxHeartbeats 4000000 in
theorem indexC_any {P : Nat → Prop} {w : World} (ca : Option Addr) (cn cc : Nat) (C : List Cn) (hC : ColsIn P w ca C) (hn : C.length = cn) (hb : cn ≤ 1048576) (gn : Nat) (s : ByteArray) (hs : w.cell? ⟨gn, 0, none⟩ = some (.string s)) : Calls Try.prog 42 #[.slice ca cn cc, .func (.func 43) #[] #[.pointer (some ⟨gn, 0, none⟩)]] w fun e w' => ∃ r, e = .returned (.int .i64 r) ∧ PlaceAt s C r ∧ Fr w w' (fun _ => False) := by
  have HC := hide hC
  have HN := hide hn
  have HS := hide hs
  clear hC hn hs
  go_enter Try.func42, Try.ntmps42
  go_wp2_with fail
  go_loopw [8] (fun ix wr => ∃ j : Nat, j ≤ cn ∧ ix = .int .i64 (j : Int) ∧ (∀ (k : Nat) (y : Cn), k < j → C[k]? = some y → y.name ≠ s) ∧ Fr w wr (fun _ => False)) (fun ix _ => cn - (intOf ix).toNat)
  case atStart => exact ⟨0, Nat.zero_le _, rfl, fun k y hk => by omega, Fr.refl _ _⟩
  case round =>
    rename World => W
    obtain ⟨j, hj, rfl, hall, hf⟩ := hrel
    have HAL := hide hall
    have HF := hide hf
    clear hall hf
    rcases Nat.lt_or_ge j cn with hlt | hge
    · obtain ⟨x, hx⟩ : ∃ x, C[j]? = some x := ⟨_, List.getElem?_eq_getElem (by rw [HN.out]; exact hlt)⟩
      obtain ⟨g, off, ha, _, e0, e1⟩ := (HC.out.fr HF.out (fun _ _ h => h)) j x hx
      subst ha
      have HX := hide hx
      have HE := hide (eqCol_any x gn s W (HF.out.cell (fun h => h) HS.out))
      unfold Cn.agg at HE
      clear hx
      go_wp2_with fail
      refine HE.out.mono ?_
      rintro e V ⟨⟨he, rfl⟩ | ⟨he, rfl⟩, fV⟩
      · have HEQ := hide he
        have HV := hide (HF.out.two fV)
        clear he fV HE
        go_wp2
        go_ret
        exact ⟨_, rfl, .inl ⟨j, x, HX.out, HEQ.out, HAL.out, rfl⟩, HV.out⟩
      · have HEQ := hide he
        have HV := hide (HF.out.two fV)
        clear he fV HE
        go_wp2
        go_roundw
        case rel => exact ⟨j + 1, by omega, by go_num, fun k z hk hz => by
          rcases Nat.lt_or_ge k j with h | h
          · exact HAL.out k z h hz
          · have : k = j := by omega
            subst this
            rw [HX.out] at hz
            cases hz
            exact HEQ.out, HV.out⟩
        case measure => simp [intOf]; omega
    · have e1 : cn = j := by omega
      subst e1
      have HNO : Hid (∀ x ∈ C, x.name ≠ s) := hide (fun x hx => by
        obtain ⟨k, hk, hk2⟩ := List.getElem_of_mem hx
        exact HAL.out k x (by rw [HN.out] at hk; exact hk) (by rw [List.getElem?_eq_getElem hk, hk2]))
      go_wp2
      go_ret
      exact ⟨_, rfl, .inr ⟨HNO.out, rfl⟩, HF.out⟩
set_option maxHeartbeats 4000000 in
theorem column_any {P : Nat → Prop} {w : World} (t : Tb) (hC : ColsIn P w t.ca t.C) (hn : t.C.length = t.cn) (hb : t.cn ≤ 1048576) (s : ByteArray) : Calls Try.prog 19 #[t.agg, .string s] w fun e w' => ∃ r, e = .returned (.int .i64 r) ∧ PlaceAt s t.C r ∧ Fr w w' (fun _ => False) := by
  have b1 := heap_alloc_new w (.cells #[.int .i64 t.id, .string t.name, .slice t.ca t.cn t.cc, .slice t.ka t.kn t.kc, .bool t.ix] 30)
  obtain ⟨w1, hw1⟩ : ∃ w1, w1 = w.alloc (.cells #[.int .i64 t.id, .string t.name, .slice t.ca t.cn t.cc, .slice t.ka t.kn t.kc, .bool t.ix] 30) := ⟨_, rfl⟩
  rw [← hw1] at b1
  have f1 : Fr w w1 (fun _ => False) := by rw [hw1]; exact Fr.alloc w _ _
  have s1 : w1.heap.size = w.heap.size + 1 := by rw [hw1]; simp
  obtain ⟨w2, hw2⟩ : ∃ w2, w2 = w1.alloc (.cells #[.string s] 9) := ⟨_, rfl⟩
  have f2 : Fr w1 w2 (fun _ => False) := by rw [hw2]; exact Fr.alloc w1 _ _
  have b2 : w2.heap[w.heap.size + 1]? = some (.cells #[.string s] 9 (0, 0)) := by rw [hw2, ← s1]; exact heap_alloc_new w1 _
  have c2 : w2.cell? ⟨w.heap.size, 2, none⟩ = some (.slice t.ca t.cn t.cc) := f2.cell (fun h => h) ((cell_of_row _ _ _ _ _ _ b1).trans rfl)
  have k0 : w2.cell? ⟨w.heap.size + 1, 0, none⟩ = some (.string s) := (cell_of_row _ _ _ _ _ _ b2).trans rfl
  have HE := hide (indexC_any t.ca t.cn t.cc t.C (hC.fr (f1.two f2) (fun _ _ h => h)) hn hb (w.heap.size + 1) s k0)
  have HF := hide (f1.two f2)
  rw [hw1] at hw2
  have HW := hide hw2
  clear b1 f1 s1 f2 b2 hw1 hC hn hw2
  unfold Tb.agg
  go_enter Try.func19, Try.ntmps19
  go_wp2_with (rw [← HW.out]; clear HW)
  refine HE.out.mono ?_
  rintro e V ⟨r, rfl, hr, fV⟩
  have HR := hide hr
  have HV := hide (HF.out.two fV)
  clear hr fV HE
  go_wp2
  go_ret
  exact ⟨r, rfl, HR.out, HV.out⟩
end Go.Proofs.Ytdeopneififnnaa
