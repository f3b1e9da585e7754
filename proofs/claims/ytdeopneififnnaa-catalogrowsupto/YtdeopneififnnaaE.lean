/- all: of names, of kinds. -/
import Derived.Test.YtdeopneififnnaaD
namespace Go.Proofs.Ytdeopneififnnaa
open Go.RowKit
set_option maxRecDepth 100000
set_option linter.unusedVariables false
set_option linter.unusedSimpArgs false

def StrsIn (P : Nat → Prop) (w : World) (a : Option Addr) (L : List ByteArray) : Prop := ∀ (i : Nat) (x : ByteArray), L[i]? = some x → ∃ g off, a = some ⟨g, off, none⟩ ∧ P g ∧ w.cell? ⟨g, off + i, none⟩ = some (.string x)
theorem StrsIn.fr {P X : Nat → Prop} {w w' : World} {a : Option Addr} {L : List ByteArray} (h : StrsIn P w a L) (hf : Fr w w' X) (hx : ∀ k, P k → ¬ X k) : StrsIn P w' a L := fun i x hi => by
  obtain ⟨g, off, h1, h2, h3⟩ := h i x hi
  exact ⟨g, off, h1, h2, hf.cell (hx g h2) h3⟩
/-- The contrary of what is asked. -/
theorem neg_names {w : World} (x : ByteArray) (gs : Nat)  (hs : w.cell? ⟨gs, 0, none⟩ = some (.func (.func 35) #[] #[])) (hq : ∀ W : World, Fr w W (fun _ => False) → Calls Try.prog 35 #[.string x] W fun e W' => e = .returned (.bool (nameP x)) ∧ Fr W W' (fun _ => False)) : Calls Try.prog 53 #[.string x, .pointer (some ⟨gs, 0, none⟩)] w fun e w' => e = .returned (.bool (!(nameP x))) ∧ Fr w w' (fun _ => False) := by
  have HQ := hide (hq w (Fr.refl _ _))
  clear hq
  go_enter Try.func53, Try.ntmps53
  go_wp2_with fail
  refine HQ.out.mono ?_
  rintro e V ⟨rfl, fV⟩
  have HV := hide fV
  clear fV HQ
  cases hqx : nameP x
  · have HEQ := hide hqx
    clear hqx
    go_wp2
    go_ret
    exact ⟨by rw [HEQ.out]; rfl, HV.out⟩
  · have HEQ := hide hqx
    clear hqx
    go_wp2
    go_ret
    exact ⟨by rw [HEQ.out]; rfl, HV.out⟩
set_option maxHeartbeats 4000000 in
/-- The first of which it is not so. -/
theorem index_names {P : Nat → Prop} {w : World} (a : Option Addr) (n c : Nat) (L : List ByteArray) (hL : StrsIn P w a L) (hn : L.length = n) (hb : n ≤ 1048576) (gs : Nat)  (hs : w.cell? ⟨gs, 0, none⟩ = some (.func (.func 35) #[] #[])) (hq : ∀ x ∈ L, ∀ W : World, Fr w W (fun _ => False) → Calls Try.prog 35 #[.string x] W fun e W' => e = .returned (.bool (nameP x)) ∧ Fr W W' (fun _ => False)) : Calls Try.prog 60 #[.slice a n c, .func (.func 53) #[] #[.pointer (some ⟨gs, 0, none⟩)]] w fun e w' => ∃ r : Int, e = .returned (.int .i64 r) ∧ (0 ≤ r ↔ ¬ ∀ x ∈ L, nameP x = true) ∧ Fr w w' (fun _ => False) := by
  have HL := hide hL
  have HN := hide hn
  have HS := hide hs
  have HQ := hide hq
  clear hL hn hs hq
  go_enter Try.func60, Try.ntmps60
  go_wp2_with fail
  go_loopw [8] (fun ix wr => ∃ j : Nat, j ≤ n ∧ ix = .int .i64 (j : Int) ∧ (∀ (k : Nat) (x : ByteArray), k < j → L[k]? = some x → nameP x = true) ∧ Fr w wr (fun _ => False)) (fun ix _ => n - (intOf ix).toNat)
  case atStart => exact ⟨0, Nat.zero_le _, rfl, fun k y hk => by omega, Fr.refl _ _⟩
  case round =>
    rename World => W
    obtain ⟨j, hj, rfl, hall, hf⟩ := hrel
    have HAL := hide hall
    have HF := hide hf
    clear hall hf
    rcases Nat.lt_or_ge j n with hlt | hge
    · obtain ⟨x, hx⟩ : ∃ x, L[j]? = some x := ⟨_, List.getElem?_eq_getElem (by rw [HN.out]; exact hlt)⟩
      obtain ⟨g, off, ha, _, e0⟩ := (HL.out.fr HF.out (fun _ _ h => h)) j x hx
      subst ha
      have HX := hide hx
      have HE := hide (neg_names (w := W) x gs (HF.out.cell (fun h => h) HS.out) (fun W' hW' => HQ.out x (List.mem_of_getElem? hx) W' (HF.out.two hW')))
      skip
      clear hx
      go_wp2_with fail
      refine HE.out.mono ?_
      rintro e V ⟨rfl, fV⟩
      have HV := hide (HF.out.two fV)
      clear fV HE
      cases hqx : nameP x
      · have HEQ := hide hqx
        clear hqx
        go_wp2
        go_ret
        exact ⟨_, rfl, ⟨fun _ h => (by have := h x (List.mem_of_getElem? HX.out); rw [HEQ.out] at this; cases this), fun _ => (by omega)⟩, HV.out⟩
      · have HEQ := hide hqx
        clear hqx
        go_wp2
        go_roundw
        case rel => exact ⟨j + 1, by omega, by go_num, fun k z hk hz => by
          rcases Nat.lt_or_ge k j with h | h
          · exact HAL.out k z h hz
          · have : k = j := by omega
            subst this
            rw [HX.out] at hz
            cases hz
            exact HEQ.out, HV.out⟩
        case measure => simp [intOf]; omega
    · have e1 : n = j := by omega
      subst e1
      have HNO : Hid (∀ x ∈ L, nameP x = true) := hide (fun x hx => by
        obtain ⟨k, hk, hk2⟩ := List.getElem_of_mem hx
        exact HAL.out k x (by rw [HN.out] at hk; exact hk) (by rw [List.getElem?_eq_getElem hk, hk2]))
      go_wp2
      go_ret
      exact ⟨_, rfl, ⟨fun h => by omega, fun h => absurd HNO.out h⟩, HF.out⟩
set_option maxHeartbeats 4000000 in
theorem all_names {P : Nat → Prop} {w : World} (a : Option Addr) (n c : Nat) (L : List ByteArray) (hL : StrsIn P w a L) (hn : L.length = n) (hb : n ≤ 1048576)  (hq : ∀ x ∈ L, ∀ W : World, Fr w W (fun _ => False) → Calls Try.prog 35 #[.string x] W fun e W' => e = .returned (.bool (nameP x)) ∧ Fr W W' (fun _ => False)) : Calls Try.prog 36 #[.slice a n c, .func (.func 35) #[] #[]] w fun e w' => ((∀ x ∈ L, nameP x = true) ∧ e = .returned (.bool true) ∨ (¬ (∀ x ∈ L, nameP x = true) ∧ e = .returned (.bool false))) ∧ Fr w w' (fun _ => False) := by
  have b1 := heap_alloc_new w (.cells #[.func (.func 35) #[] #[]] 77)
  obtain ⟨w1, hw1⟩ : ∃ w1, w1 = w.alloc (.cells #[.func (.func 35) #[] #[]] 77) := ⟨_, rfl⟩
  rw [← hw1] at b1
  have c0 : w1.cell? ⟨w.heap.size, 0, none⟩ = some (.func (.func 35) #[] #[]) := (cell_of_row _ _ _ _ _ _ b1).trans rfl
  have f1 : Fr w w1 (fun _ => False) := by rw [hw1]; exact Fr.alloc w _ _
  have HI := hide (index_names a n c L (hL.fr f1 (fun _ _ h => h)) hn hb w.heap.size c0 (fun x hx W hW => hq x hx W (f1.two hW)))
  have HF := hide f1
  have HW := hide hw1
  clear b1 hw1 f1 hL hn hq
  have HC : Hid (Calls Try.prog 52 #[.slice a n c, .func (.func 53) #[] #[.pointer (some ⟨w.heap.size, 0, none⟩)]] w1 fun e w' => ((∀ x ∈ L, nameP x = true) ∧ e = .returned (.bool false) ∨ (¬ (∀ x ∈ L, nameP x = true) ∧ e = .returned (.bool true))) ∧ Fr w1 w' (fun _ => False)) := hide (by
    go_enter Try.func52, Try.ntmps52
    go_wp2_with fail
    refine HI.out.mono ?_
    rintro e V ⟨r, rfl, hr, fV⟩
    have HR := hide hr
    have HV := hide fV
    clear hr fV HI
    by_cases h0 : 0 ≤ r
    · have h0b : decide (r ≥ 0) = true := by simp; omega
      have H0 := hide h0
      clear h0
      go_wp2
      go_ret
      exact ⟨.inr ⟨HR.out.1 H0.out, rfl⟩, HV.out⟩
    · have h0b : decide (r ≥ 0) = false := by simp; omega
      have H0 := hide h0
      clear h0
      go_wp2
      go_ret
      exact ⟨.inl ⟨Classical.byContradiction fun h => by have h1 := HR.out.2 h; have h2 := H0.out; omega, rfl⟩, HV.out⟩)
  clear HI
  go_enter Try.func36, Try.ntmps36
  go_wp2_with (rw [← HW.out]; clear HW)
  refine HC.out.mono ?_
  rintro e V ⟨⟨hh, rfl⟩ | ⟨hh, rfl⟩, fV⟩
  · have HH := hide hh
    have HV := hide (HF.out.two fV)
    clear hh fV HC
    go_wp2
    go_ret
    exact ⟨.inl ⟨HH.out, rfl⟩, HV.out⟩
  · have HH := hide hh
    have HV := hide (HF.out.two fV)
    clear hh fV HC
    go_wp2
    go_ret
    exact ⟨.inr ⟨HH.out, rfl⟩, HV.out⟩
/-- The contrary of what is asked. -/
theorem neg_kinds {w : World} (x : Cn) (gs : Nat)  (hs : w.cell? ⟨gs, 0, none⟩ = some (.func (.func 38) #[] #[])) (hq : ∀ W : World, Fr w W (fun _ => False) → Calls Try.prog 38 #[x.agg] W fun e W' => e = .returned (.bool (kindP x)) ∧ Fr W W' (fun _ => False)) : Calls Try.prog 55 #[x.agg, .pointer (some ⟨gs, 0, none⟩)] w fun e w' => e = .returned (.bool (!(kindP x))) ∧ Fr w w' (fun _ => False) := by
  have b1 := heap_alloc_new w (.cells #[.string x.name, .int .i64 x.kind] 37)
  obtain ⟨w1, hw1⟩ : ∃ w1, w1 = w.alloc (.cells #[.string x.name, .int .i64 x.kind] 37) := ⟨_, rfl⟩
  rw [← hw1] at b1
  have c0 : w1.cell? ⟨w.heap.size, 0, none⟩ = some (.string x.name) := (cell_of_row _ _ _ _ _ _ b1).trans rfl
  have c1 : w1.cell? ⟨w.heap.size, 1, none⟩ = some (.int .i64 x.kind) := (cell_of_row _ _ _ _ _ _ b1).trans rfl
  have f1 : Fr w w1 (fun _ => False) := by rw [hw1]; exact Fr.alloc w _ _
  have hs1 := f1.cell (fun h => h) hs
  have HF := hide f1
  have HW := hide hw1
  have HQ := hide (hq w1 f1)
  clear hq
  unfold Cn.agg at HQ ⊢
  clear b1 hw1 f1 hs
  go_enter Try.func55, Try.ntmps55
  go_wp2_with (rw [← HW.out]; clear HW)
  refine HQ.out.mono ?_
  rintro e V ⟨rfl, fV⟩
  have HV := hide (HF.out.two fV)
  clear fV HQ
  cases hqx : kindP x
  · have HEQ := hide hqx
    clear hqx
    go_wp2
    go_ret
    exact ⟨by rw [HEQ.out]; rfl, HV.out⟩
  · have HEQ := hide hqx
    clear hqx
    go_wp2
    go_ret
    exact ⟨by rw [HEQ.out]; rfl, HV.out⟩
set_option maxHeartbeats 4000000 in
/-- The first of which it is not so. -/
theorem index_kinds {P : Nat → Prop} {w : World} (a : Option Addr) (n c : Nat) (L : List Cn) (hL : ColsIn P w a L) (hn : L.length = n) (hb : n ≤ 1048576) (gs : Nat)  (hs : w.cell? ⟨gs, 0, none⟩ = some (.func (.func 38) #[] #[])) (hq : ∀ x ∈ L, ∀ W : World, Fr w W (fun _ => False) → Calls Try.prog 38 #[x.agg] W fun e W' => e = .returned (.bool (kindP x)) ∧ Fr W W' (fun _ => False)) : Calls Try.prog 42 #[.slice a n c, .func (.func 55) #[] #[.pointer (some ⟨gs, 0, none⟩)]] w fun e w' => ∃ r : Int, e = .returned (.int .i64 r) ∧ (0 ≤ r ↔ ¬ ∀ x ∈ L, kindP x = true) ∧ Fr w w' (fun _ => False) := by
  have HL := hide hL
  have HN := hide hn
  have HS := hide hs
  have HQ := hide hq
  clear hL hn hs hq
  go_enter Try.func42, Try.ntmps42
  go_wp2_with fail
  go_loopw [8] (fun ix wr => ∃ j : Nat, j ≤ n ∧ ix = .int .i64 (j : Int) ∧ (∀ (k : Nat) (x : Cn), k < j → L[k]? = some x → kindP x = true) ∧ Fr w wr (fun _ => False)) (fun ix _ => n - (intOf ix).toNat)
  case atStart => exact ⟨0, Nat.zero_le _, rfl, fun k y hk => by omega, Fr.refl _ _⟩
  case round =>
    rename World => W
    obtain ⟨j, hj, rfl, hall, hf⟩ := hrel
    have HAL := hide hall
    have HF := hide hf
    clear hall hf
    rcases Nat.lt_or_ge j n with hlt | hge
    · obtain ⟨x, hx⟩ : ∃ x, L[j]? = some x := ⟨_, List.getElem?_eq_getElem (by rw [HN.out]; exact hlt)⟩
      obtain ⟨g, off, ha, _, e0, e1⟩ := (HL.out.fr HF.out (fun _ _ h => h)) j x hx
      subst ha
      have HX := hide hx
      have HE := hide (neg_kinds (w := W) x gs (HF.out.cell (fun h => h) HS.out) (fun W' hW' => HQ.out x (List.mem_of_getElem? hx) W' (HF.out.two hW')))
      unfold Cn.agg at HE
      clear hx
      go_wp2_with fail
      refine HE.out.mono ?_
      rintro e V ⟨rfl, fV⟩
      have HV := hide (HF.out.two fV)
      clear fV HE
      cases hqx : kindP x
      · have HEQ := hide hqx
        clear hqx
        go_wp2
        go_ret
        exact ⟨_, rfl, ⟨fun _ h => (by have := h x (List.mem_of_getElem? HX.out); rw [HEQ.out] at this; cases this), fun _ => (by omega)⟩, HV.out⟩
      · have HEQ := hide hqx
        clear hqx
        go_wp2
        go_roundw
        case rel => exact ⟨j + 1, by omega, by go_num, fun k z hk hz => by
          rcases Nat.lt_or_ge k j with h | h
          · exact HAL.out k z h hz
          · have : k = j := by omega
            subst this
            rw [HX.out] at hz
            cases hz
            exact HEQ.out, HV.out⟩
        case measure => simp [intOf]; omega
    · have e1 : n = j := by omega
      subst e1
      have HNO : Hid (∀ x ∈ L, kindP x = true) := hide (fun x hx => by
        obtain ⟨k, hk, hk2⟩ := List.getElem_of_mem hx
        exact HAL.out k x (by rw [HN.out] at hk; exact hk) (by rw [List.getElem?_eq_getElem hk, hk2]))
      go_wp2
      go_ret
      exact ⟨_, rfl, ⟨fun h => by omega, fun h => absurd HNO.out h⟩, HF.out⟩
set_option maxHeartbeats 4000000 in
theorem all_kinds {P : Nat → Prop} {w : World} (a : Option Addr) (n c : Nat) (L : List Cn) (hL : ColsIn P w a L) (hn : L.length = n) (hb : n ≤ 1048576)  (hq : ∀ x ∈ L, ∀ W : World, Fr w W (fun _ => False) → Calls Try.prog 38 #[x.agg] W fun e W' => e = .returned (.bool (kindP x)) ∧ Fr W W' (fun _ => False)) : Calls Try.prog 37 #[.slice a n c, .func (.func 38) #[] #[]] w fun e w' => ((∀ x ∈ L, kindP x = true) ∧ e = .returned (.bool true) ∨ (¬ (∀ x ∈ L, kindP x = true) ∧ e = .returned (.bool false))) ∧ Fr w w' (fun _ => False) := by
  have b1 := heap_alloc_new w (.cells #[.func (.func 38) #[] #[]] 80)
  obtain ⟨w1, hw1⟩ : ∃ w1, w1 = w.alloc (.cells #[.func (.func 38) #[] #[]] 80) := ⟨_, rfl⟩
  rw [← hw1] at b1
  have c0 : w1.cell? ⟨w.heap.size, 0, none⟩ = some (.func (.func 38) #[] #[]) := (cell_of_row _ _ _ _ _ _ b1).trans rfl
  have f1 : Fr w w1 (fun _ => False) := by rw [hw1]; exact Fr.alloc w _ _
  have HI := hide (index_kinds a n c L (hL.fr f1 (fun _ _ h => h)) hn hb w.heap.size c0 (fun x hx W hW => hq x hx W (f1.two hW)))
  have HF := hide f1
  have HW := hide hw1
  clear b1 hw1 f1 hL hn hq
  have HC : Hid (Calls Try.prog 54 #[.slice a n c, .func (.func 55) #[] #[.pointer (some ⟨w.heap.size, 0, none⟩)]] w1 fun e w' => ((∀ x ∈ L, kindP x = true) ∧ e = .returned (.bool false) ∨ (¬ (∀ x ∈ L, kindP x = true) ∧ e = .returned (.bool true))) ∧ Fr w1 w' (fun _ => False)) := hide (by
    go_enter Try.func54, Try.ntmps54
    go_wp2_with fail
    refine HI.out.mono ?_
    rintro e V ⟨r, rfl, hr, fV⟩
    have HR := hide hr
    have HV := hide fV
    clear hr fV HI
    by_cases h0 : 0 ≤ r
    · have h0b : decide (r ≥ 0) = true := by simp; omega
      have H0 := hide h0
      clear h0
      go_wp2
      go_ret
      exact ⟨.inr ⟨HR.out.1 H0.out, rfl⟩, HV.out⟩
    · have h0b : decide (r ≥ 0) = false := by simp; omega
      have H0 := hide h0
      clear h0
      go_wp2
      go_ret
      exact ⟨.inl ⟨Classical.byContradiction fun h => by have h1 := HR.out.2 h; have h2 := H0.out; omega, rfl⟩, HV.out⟩)
  clear HI
  go_enter Try.func37, Try.ntmps37
  go_wp2_with (rw [← HW.out]; clear HW)
  refine HC.out.mono ?_
  rintro e V ⟨⟨hh, rfl⟩ | ⟨hh, rfl⟩, fV⟩
  · have HH := hide hh
    have HV := hide (HF.out.two fV)
    clear hh fV HC
    go_wp2
    go_ret
    exact ⟨.inl ⟨HH.out, rfl⟩, HV.out⟩
  · have HH := hide hh
    have HV := hide (HF.out.two fV)
    clear hh fV HC
    go_wp2
    go_ret
    exact ⟨.inr ⟨HH.out, rfl⟩, HV.out⟩
/-- Is there a column of a name? -/
def hasC (C : List Cn) (x : ByteArray) : Bool := C.any (fun c => decide (c.name = x))
/-- The contrary of what is asked. -/
theorem neg_keys {w : World} (x : ByteArray) (gs : Nat) (gt : Nat) (C : List Cn) (hs : w.cell? ⟨gs, 0, none⟩ = some (.func (.func 40) #[] #[.pointer (some ⟨gt, 0, none⟩)])) (hq : ∀ W : World, Fr w W (fun _ => False) → Calls Try.prog 40 #[.string x, .pointer (some ⟨gt, 0, none⟩)] W fun e W' => e = .returned (.bool (hasC C x)) ∧ Fr W W' (fun _ => False)) : Calls Try.prog 53 #[.string x, .pointer (some ⟨gs, 0, none⟩)] w fun e w' => e = .returned (.bool (!(hasC C x))) ∧ Fr w w' (fun _ => False) := by
  have HQ := hide (hq w (Fr.refl _ _))
  clear hq
  go_enter Try.func53, Try.ntmps53
  go_wp2_with fail
  refine HQ.out.mono ?_
  rintro e V ⟨rfl, fV⟩
  have HV := hide fV
  clear fV HQ
  cases hqx : hasC C x
  · have HEQ := hide hqx
    clear hqx
    go_wp2
    go_ret
    exact ⟨by rw [HEQ.out]; rfl, HV.out⟩
  · have HEQ := hide hqx
    clear hqx
    go_wp2
    go_ret
    exact ⟨by rw [HEQ.out]; rfl, HV.out⟩
set_option maxHeartbeats 4000000 in
/-- The first of which it is not so. -/
theorem index_keys {P : Nat → Prop} {w : World} (a : Option Addr) (n c : Nat) (L : List ByteArray) (hL : StrsIn P w a L) (hn : L.length = n) (hb : n ≤ 1048576) (gs : Nat) (gt : Nat) (C : List Cn) (hs : w.cell? ⟨gs, 0, none⟩ = some (.func (.func 40) #[] #[.pointer (some ⟨gt, 0, none⟩)])) (hq : ∀ x ∈ L, ∀ W : World, Fr w W (fun _ => False) → Calls Try.prog 40 #[.string x, .pointer (some ⟨gt, 0, none⟩)] W fun e W' => e = .returned (.bool (hasC C x)) ∧ Fr W W' (fun _ => False)) : Calls Try.prog 60 #[.slice a n c, .func (.func 53) #[] #[.pointer (some ⟨gs, 0, none⟩)]] w fun e w' => ∃ r : Int, e = .returned (.int .i64 r) ∧ (0 ≤ r ↔ ¬ ∀ x ∈ L, hasC C x = true) ∧ Fr w w' (fun _ => False) := by
  have HL := hide hL
  have HN := hide hn
  have HS := hide hs
  have HQ := hide hq
  clear hL hn hs hq
  go_enter Try.func60, Try.ntmps60
  go_wp2_with fail
  go_loopw [8] (fun ix wr => ∃ j : Nat, j ≤ n ∧ ix = .int .i64 (j : Int) ∧ (∀ (k : Nat) (x : ByteArray), k < j → L[k]? = some x → hasC C x = true) ∧ Fr w wr (fun _ => False)) (fun ix _ => n - (intOf ix).toNat)
  case atStart => exact ⟨0, Nat.zero_le _, rfl, fun k y hk => by omega, Fr.refl _ _⟩
  case round =>
    rename World => W
    obtain ⟨j, hj, rfl, hall, hf⟩ := hrel
    have HAL := hide hall
    have HF := hide hf
    clear hall hf
    rcases Nat.lt_or_ge j n with hlt | hge
    · obtain ⟨x, hx⟩ : ∃ x, L[j]? = some x := ⟨_, List.getElem?_eq_getElem (by rw [HN.out]; exact hlt)⟩
      obtain ⟨g, off, ha, _, e0⟩ := (HL.out.fr HF.out (fun _ _ h => h)) j x hx
      subst ha
      have HX := hide hx
      have HE := hide (neg_keys (w := W) x gs gt C (HF.out.cell (fun h => h) HS.out) (fun W' hW' => HQ.out x (List.mem_of_getElem? hx) W' (HF.out.two hW')))
      skip
      clear hx
      go_wp2_with fail
      refine HE.out.mono ?_
      rintro e V ⟨rfl, fV⟩
      have HV := hide (HF.out.two fV)
      clear fV HE
      cases hqx : hasC C x
      · have HEQ := hide hqx
        clear hqx
        go_wp2
        go_ret
        exact ⟨_, rfl, ⟨fun _ h => (by have := h x (List.mem_of_getElem? HX.out); rw [HEQ.out] at this; cases this), fun _ => (by omega)⟩, HV.out⟩
      · have HEQ := hide hqx
        clear hqx
        go_wp2
        go_roundw
        case rel => exact ⟨j + 1, by omega, by go_num, fun k z hk hz => by
          rcases Nat.lt_or_ge k j with h | h
          · exact HAL.out k z h hz
          · have : k = j := by omega
            subst this
            rw [HX.out] at hz
            cases hz
            exact HEQ.out, HV.out⟩
        case measure => simp [intOf]; omega
    · have e1 : n = j := by omega
      subst e1
      have HNO : Hid (∀ x ∈ L, hasC C x = true) := hide (fun x hx => by
        obtain ⟨k, hk, hk2⟩ := List.getElem_of_mem hx
        exact HAL.out k x (by rw [HN.out] at hk; exact hk) (by rw [List.getElem?_eq_getElem hk, hk2]))
      go_wp2
      go_ret
      exact ⟨_, rfl, ⟨fun h => by omega, fun h => absurd HNO.out h⟩, HF.out⟩
set_option maxHeartbeats 4000000 in
theorem all_keys {P : Nat → Prop} {w : World} (a : Option Addr) (n c : Nat) (L : List ByteArray) (hL : StrsIn P w a L) (hn : L.length = n) (hb : n ≤ 1048576) (gt : Nat) (C : List Cn) (hq : ∀ x ∈ L, ∀ W : World, Fr w W (fun _ => False) → Calls Try.prog 40 #[.string x, .pointer (some ⟨gt, 0, none⟩)] W fun e W' => e = .returned (.bool (hasC C x)) ∧ Fr W W' (fun _ => False)) : Calls Try.prog 36 #[.slice a n c, .func (.func 40) #[] #[.pointer (some ⟨gt, 0, none⟩)]] w fun e w' => ((∀ x ∈ L, hasC C x = true) ∧ e = .returned (.bool true) ∨ (¬ (∀ x ∈ L, hasC C x = true) ∧ e = .returned (.bool false))) ∧ Fr w w' (fun _ => False) := by
  have b1 := heap_alloc_new w (.cells #[.func (.func 40) #[] #[.pointer (some ⟨gt, 0, none⟩)]] 77)
  obtain ⟨w1, hw1⟩ : ∃ w1, w1 = w.alloc (.cells #[.func (.func 40) #[] #[.pointer (some ⟨gt, 0, none⟩)]] 77) := ⟨_, rfl⟩
  rw [← hw1] at b1
  have c0 : w1.cell? ⟨w.heap.size, 0, none⟩ = some (.func (.func 40) #[] #[.pointer (some ⟨gt, 0, none⟩)]) := (cell_of_row _ _ _ _ _ _ b1).trans rfl
  have f1 : Fr w w1 (fun _ => False) := by rw [hw1]; exact Fr.alloc w _ _
  have HI := hide (index_keys a n c L (hL.fr f1 (fun _ _ h => h)) hn hb w.heap.size gt C c0 (fun x hx W hW => hq x hx W (f1.two hW)))
  have HF := hide f1
  have HW := hide hw1
  clear b1 hw1 f1 hL hn hq
  have HC : Hid (Calls Try.prog 52 #[.slice a n c, .func (.func 53) #[] #[.pointer (some ⟨w.heap.size, 0, none⟩)]] w1 fun e w' => ((∀ x ∈ L, hasC C x = true) ∧ e = .returned (.bool false) ∨ (¬ (∀ x ∈ L, hasC C x = true) ∧ e = .returned (.bool true))) ∧ Fr w1 w' (fun _ => False)) := hide (by
    go_enter Try.func52, Try.ntmps52
    go_wp2_with fail
    refine HI.out.mono ?_
    rintro e V ⟨r, rfl, hr, fV⟩
    have HR := hide hr
    have HV := hide fV
    clear hr fV HI
    by_cases h0 : 0 ≤ r
    · have h0b : decide (r ≥ 0) = true := by simp; omega
      have H0 := hide h0
      clear h0
      go_wp2
      go_ret
      exact ⟨.inr ⟨HR.out.1 H0.out, rfl⟩, HV.out⟩
    · have h0b : decide (r ≥ 0) = false := by simp; omega
      have H0 := hide h0
      clear h0
      go_wp2
      go_ret
      exact ⟨.inl ⟨Classical.byContradiction fun h => by have h1 := HR.out.2 h; have h2 := H0.out; omega, rfl⟩, HV.out⟩)
  clear HI
  go_enter Try.func36, Try.ntmps36
  go_wp2_with (rw [← HW.out]; clear HW)
  refine HC.out.mono ?_
  rintro e V ⟨⟨hh, rfl⟩ | ⟨hh, rfl⟩, fV⟩
  · have HH := hide hh
    have HV := hide (HF.out.two fV)
    clear hh fV HC
    go_wp2
    go_ret
    exact ⟨.inl ⟨HH.out, rfl⟩, HV.out⟩
  · have HH := hide hh
    have HV := hide (HF.out.two fV)
    clear hh fV HC
    go_wp2
    go_ret
    exact ⟨.inr ⟨HH.out, rfl⟩, HV.out⟩
end Go.Proofs.Ytdeopneififnnaa
