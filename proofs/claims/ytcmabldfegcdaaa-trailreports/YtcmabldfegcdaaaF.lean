/- Entries, plainly and in memory; isKind, leastSize, numbersRight, hasForeign, Check. -/
import Derived.Test.YtcmabldfegcdaaaE
import Derived.Test.YtcmabldfegcdaaaKr
namespace Go.Proofs.Ytcmabldfegcdaaa
open Go.RowKit
set_option maxRecDepth 100000
set_option linter.unusedVariables false

structure Ent where
  kind : Int
  txn : Int
  page : Int
  slot : Int
  stamp : Int
  data : List UInt8

def kindB (k : Int) : Bool := decide (1 ≤ k ∧ k ≤ 3)
def numsB (e : Ent) : Bool := decide (1 ≤ e.txn ∧ 0 ≤ e.page ∧ e.page ≤ 65535 ∧ 0 ≤ e.slot ∧ e.slot ≤ 255 ∧ 0 ≤ e.stamp ∧ e.stamp ≤ 1099511627776)
def forB (e : Ent) : Bool := if e.kind = 3 then decide (e.page ≠ 0 ∨ e.slot ≠ 0 ∨ e.data.length ≠ 0) else decide (e.stamp ≠ 0 ∨ (e.kind = 2 ∧ e.data.length ≠ 0))
/-- The error's number of an entry. -/
def chk (e : Ent) : Int := if kindB e.kind = false then 21 else if numsB e = false ∨ forB e = true then 1 else if 200 < e.data.length then 2 else 0
def needN (k : Int) : Int := if k = 3 then 17 else 12
def entV (e : Ent) (a : Option Addr) (c : Nat) : Value := .agg #[.int .i64 e.kind, .int .i64 e.txn, .int .i64 e.page, .int .i64 e.slot, .int .i64 e.stamp, .slice a e.data.length c]

/-- A box of six cells. -/
structure Six (w : World) (g : Nat) (x0 x1 x2 x3 x4 x5 : Value) : Prop where
  c0 : w.cell? ⟨g, 0, none⟩ = some x0
  c1 : w.cell? ⟨g, 1, none⟩ = some x1
  c2 : w.cell? ⟨g, 2, none⟩ = some x2
  c3 : w.cell? ⟨g, 3, none⟩ = some x3
  c4 : w.cell? ⟨g, 4, none⟩ = some x4
  c5 : w.cell? ⟨g, 5, none⟩ = some x5
  z : ∀ j, w.frozen? ⟨g, j, none⟩ = false
theorem six_of {w : World} {g : Nat} {x0 x1 x2 x3 x4 x5 : Value} {t : TypeId} (h : w.heap[g]? = some (.cells #[x0, x1, x2, x3, x4, x5] t (0, 0))) : Six w g x0 x1 x2 x3 x4 x5 := by
  refine ⟨?_, ?_, ?_, ?_, ?_, ?_, ?_⟩
  all_goals first | (rw [cell_of_row _ _ _ _ _ _ h]; rfl) | (intro j; simp [World.frozen?, h])
theorem Six.fr {w w' : World} {X : Nat → Prop} {g : Nat} {x0 x1 x2 x3 x4 x5 : Value} (h : Six w g x0 x1 x2 x3 x4 x5) (hf : Fr w w' X) (hx : ¬ X g) : Six w' g x0 x1 x2 x3 x4 x5 := by
  have hb := hf.block g (World.block_lt_of_cell? w _ h.c0) hx
  exact ⟨by rw [World.cell?_of_block (w := w) hb]; exact h.c0, by rw [World.cell?_of_block (w := w) hb]; exact h.c1, by rw [World.cell?_of_block (w := w) hb]; exact h.c2, by rw [World.cell?_of_block (w := w) hb]; exact h.c3, by rw [World.cell?_of_block (w := w) hb]; exact h.c4, by rw [World.cell?_of_block (w := w) hb]; exact h.c5, fun j => by rw [World.frozen?_of_block (w := w) hb]; exact h.z j⟩
theorem Six.set0 {w : World} {g : Nat} {x0 x1 x2 x3 x4 x5 : Value} (h : Six w g x0 x1 x2 x3 x4 x5) (v : Value) : Six (w.setCell ⟨g, 0, none⟩ v) g v x1 x2 x3 x4 x5 :=
  ⟨World.cell?_setCell_same _ _ _ h.c0, by rw [World.cell?_setCell_other _ _ _ _ (by simp)]; exact h.c1, by rw [World.cell?_setCell_other _ _ _ _ (by simp)]; exact h.c2, by rw [World.cell?_setCell_other _ _ _ _ (by simp)]; exact h.c3, by rw [World.cell?_setCell_other _ _ _ _ (by simp)]; exact h.c4, by rw [World.cell?_setCell_other _ _ _ _ (by simp)]; exact h.c5, fun j => by rw [World.frozen?_setCell]; exact h.z j⟩
theorem Six.set1 {w : World} {g : Nat} {x0 x1 x2 x3 x4 x5 : Value} (h : Six w g x0 x1 x2 x3 x4 x5) (v : Value) : Six (w.setCell ⟨g, 1, none⟩ v) g x0 v x2 x3 x4 x5 :=
  ⟨by rw [World.cell?_setCell_other _ _ _ _ (by simp)]; exact h.c0, World.cell?_setCell_same _ _ _ h.c1, by rw [World.cell?_setCell_other _ _ _ _ (by simp)]; exact h.c2, by rw [World.cell?_setCell_other _ _ _ _ (by simp)]; exact h.c3, by rw [World.cell?_setCell_other _ _ _ _ (by simp)]; exact h.c4, by rw [World.cell?_setCell_other _ _ _ _ (by simp)]; exact h.c5, fun j => by rw [World.frozen?_setCell]; exact h.z j⟩
theorem Six.set2 {w : World} {g : Nat} {x0 x1 x2 x3 x4 x5 : Value} (h : Six w g x0 x1 x2 x3 x4 x5) (v : Value) : Six (w.setCell ⟨g, 2, none⟩ v) g x0 x1 v x3 x4 x5 :=
  ⟨by rw [World.cell?_setCell_other _ _ _ _ (by simp)]; exact h.c0, by rw [World.cell?_setCell_other _ _ _ _ (by simp)]; exact h.c1, World.cell?_setCell_same _ _ _ h.c2, by rw [World.cell?_setCell_other _ _ _ _ (by simp)]; exact h.c3, by rw [World.cell?_setCell_other _ _ _ _ (by simp)]; exact h.c4, by rw [World.cell?_setCell_other _ _ _ _ (by simp)]; exact h.c5, fun j => by rw [World.frozen?_setCell]; exact h.z j⟩
theorem Six.set3 {w : World} {g : Nat} {x0 x1 x2 x3 x4 x5 : Value} (h : Six w g x0 x1 x2 x3 x4 x5) (v : Value) : Six (w.setCell ⟨g, 3, none⟩ v) g x0 x1 x2 v x4 x5 :=
  ⟨by rw [World.cell?_setCell_other _ _ _ _ (by simp)]; exact h.c0, by rw [World.cell?_setCell_other _ _ _ _ (by simp)]; exact h.c1, by rw [World.cell?_setCell_other _ _ _ _ (by simp)]; exact h.c2, World.cell?_setCell_same _ _ _ h.c3, by rw [World.cell?_setCell_other _ _ _ _ (by simp)]; exact h.c4, by rw [World.cell?_setCell_other _ _ _ _ (by simp)]; exact h.c5, fun j => by rw [World.frozen?_setCell]; exact h.z j⟩
theorem Six.set4 {w : World} {g : Nat} {x0 x1 x2 x3 x4 x5 : Value} (h : Six w g x0 x1 x2 x3 x4 x5) (v : Value) : Six (w.setCell ⟨g, 4, none⟩ v) g x0 x1 x2 x3 v x5 :=
  ⟨by rw [World.cell?_setCell_other _ _ _ _ (by simp)]; exact h.c0, by rw [World.cell?_setCell_other _ _ _ _ (by simp)]; exact h.c1, by rw [World.cell?_setCell_other _ _ _ _ (by simp)]; exact h.c2, by rw [World.cell?_setCell_other _ _ _ _ (by simp)]; exact h.c3, World.cell?_setCell_same _ _ _ h.c4, by rw [World.cell?_setCell_other _ _ _ _ (by simp)]; exact h.c5, fun j => by rw [World.frozen?_setCell]; exact h.z j⟩
theorem Six.set5 {w : World} {g : Nat} {x0 x1 x2 x3 x4 x5 : Value} (h : Six w g x0 x1 x2 x3 x4 x5) (v : Value) : Six (w.setCell ⟨g, 5, none⟩ v) g x0 x1 x2 x3 x4 v :=
  ⟨by rw [World.cell?_setCell_other _ _ _ _ (by simp)]; exact h.c0, by rw [World.cell?_setCell_other _ _ _ _ (by simp)]; exact h.c1, by rw [World.cell?_setCell_other _ _ _ _ (by simp)]; exact h.c2, by rw [World.cell?_setCell_other _ _ _ _ (by simp)]; exact h.c3, by rw [World.cell?_setCell_other _ _ _ _ (by simp)]; exact h.c4, World.cell?_setCell_same _ _ _ h.c5, fun j => by rw [World.frozen?_setCell]; exact h.z j⟩
/-- A box is filled. -/
def fill (w : World) (g : Nat) (x0 x1 x2 x3 x4 x5 : Value) : World := (((((w.setCell ⟨g, 0, none⟩ x0).setCell ⟨g, 1, none⟩ x1).setCell ⟨g, 2, none⟩ x2).setCell ⟨g, 3, none⟩ x3).setCell ⟨g, 4, none⟩ x4).setCell ⟨g, 5, none⟩ x5
theorem Six.fill {w : World} {g : Nat} {y0 y1 y2 y3 y4 y5 : Value} (h : Six w g y0 y1 y2 y3 y4 y5) (x0 x1 x2 x3 x4 x5 : Value) : Six (fill w g x0 x1 x2 x3 x4 x5) g x0 x1 x2 x3 x4 x5 :=
  (((((h.set0 x0).set1 x1).set2 x2).set3 x3).set4 x4).set5 x5
theorem fill_fr (w : World) (g : Nat) (x0 x1 x2 x3 x4 x5 : Value) : Fr w (fill w g x0 x1 x2 x3 x4 x5) (fun k => k = g) :=
  ((((((Fr.setCell w ⟨g, 0, none⟩ x0).trans (Fr.setCell _ ⟨g, 1, none⟩ x1)).trans (Fr.setCell _ ⟨g, 2, none⟩ x2)).trans (Fr.setCell _ ⟨g, 3, none⟩ x3)).trans (Fr.setCell _ ⟨g, 4, none⟩ x4)).trans (Fr.setCell _ ⟨g, 5, none⟩ x5)).mono (fun q hq h => by rcases h with ((((h | h) | h) | h) | h) | h <;> exact h)
theorem Six.range {w : World} {g : Nat} {x0 x1 x2 x3 x4 x5 : Value} (h : Six w g x0 x1 x2 x3 x4 x5) : w.rangeAt g 0 [x0, x1, x2, x3, x4, x5] := by
  intro j v hv
  match j, hv with
  | 0, hv => simp only [List.getElem?_cons_zero, Option.some.injEq] at hv; subst hv; exact h.c0
  | 1, hv => simp only [List.getElem?_cons_succ, List.getElem?_cons_zero, Option.some.injEq] at hv; subst hv; exact h.c1
  | 2, hv => simp only [List.getElem?_cons_succ, List.getElem?_cons_zero, Option.some.injEq] at hv; subst hv; exact h.c2
  | 3, hv => simp only [List.getElem?_cons_succ, List.getElem?_cons_zero, Option.some.injEq] at hv; subst hv; exact h.c3
  | 4, hv => simp only [List.getElem?_cons_succ, List.getElem?_cons_zero, Option.some.injEq] at hv; subst hv; exact h.c4
  | 5, hv => simp only [List.getElem?_cons_succ, List.getElem?_cons_zero, Option.some.injEq] at hv; subst hv; exact h.c5
  | j + 6, hv => simp at hv

theorem kind_any (k : Int) (w : World) : Calls Try.prog 31 #[.int .i64 k] w fun e w' => e = .returned (.bool (kindB k)) ∧ w' = w := by
  go_enter Try.func31, Try.ntmps31
  by_cases h1 : 1 ≤ k
  · by_cases h2 : k ≤ 3
    · go_wp2
      go_ret
      exact ⟨by rw [show kindB k = true from decide_eq_true (by omega)]; rfl, rfl⟩
    · go_wp2
      go_ret
      exact ⟨by rw [show kindB k = false from decide_eq_false (by omega)]; rfl, rfl⟩
  · go_wp2
    go_ret
    exact ⟨by rw [show kindB k = false from decide_eq_false (by omega)]; rfl, rfl⟩
theorem need_any (k : Int) (w : World) : Calls Try.prog 32 #[.int .i64 k] w fun e w' => e = .returned (.int .i64 (needN k)) ∧ w' = w := by
  go_enter Try.func32, Try.ntmps32
  by_cases h1 : k = 3
  · subst h1
    go_wp2
    go_ret
    exact ⟨rfl, rfl⟩
  · go_wp2
    go_ret
    exact ⟨by simp [needN, h1], rfl⟩
/-- The box of an entry. -/
abbrev EB (w : World) (g : Nat) (e : Ent) (v : Value) : Prop := Six w g (.int .i64 e.kind) (.int .i64 e.txn) (.int .i64 e.page) (.int .i64 e.slot) (.int .i64 e.stamp) v
abbrev ebox (w : World) (e : Ent) (v : Value) : World := w.alloc (.cells #[.int .i64 e.kind, .int .i64 e.txn, .int .i64 e.page, .int .i64 e.slot, .int .i64 e.stamp, v] 31)
theorem ebox_eb (w : World) (e : Ent) (v : Value) : EB (ebox w e v) w.heap.size e v := six_of (heap_alloc_new w _)

set_option maxRecDepth 100000 in
set_option maxHeartbeats 2000000 in
theorem nums_any (e : Ent) (a : Option Addr) (c : Nat) (w : World) : Calls Try.prog 39 #[entV e a c] w fun x w' => x = .returned (.bool (numsB e)) ∧ Fr w w' (fun _ => False) := by
  have HB := hide (ebox_eb w e (.slice a e.data.length c))
  have HF := hide (Fr.alloc w (.cells #[.int .i64 e.kind, .int .i64 e.txn, .int .i64 e.page, .int .i64 e.slot, .int .i64 e.stamp, .slice a e.data.length c] 31) (fun _ => False))
  have c0 := HB.out.c0
  have c1 := HB.out.c1
  have c2 := HB.out.c2
  have c3 := HB.out.c3
  have c4 := HB.out.c4
  have c5 := HB.out.c5
  unfold entV
  go_enter Try.func39, Try.ntmps39
  by_cases k0 : 1 ≤ e.txn
  · by_cases k1 : 0 ≤ e.page
    · by_cases k2 : e.page ≤ 65535
      · by_cases k3 : 0 ≤ e.slot
        · by_cases k4 : e.slot ≤ 255
          · by_cases k5 : 0 ≤ e.stamp
            · by_cases k6 : e.stamp ≤ 1099511627776
              · go_wp2
                go_ret
                exact ⟨by rw [show numsB e = true from decide_eq_true (by omega)]; rfl, HF.out⟩
              · go_wp2
                go_ret
                exact ⟨by rw [show numsB e = false from decide_eq_false (by omega)]; rfl, HF.out⟩
            · go_wp2
              go_ret
              exact ⟨by rw [show numsB e = false from decide_eq_false (by omega)]; rfl, HF.out⟩
          · go_wp2
            go_ret
            exact ⟨by rw [show numsB e = false from decide_eq_false (by omega)]; rfl, HF.out⟩
        · go_wp2
          go_ret
          exact ⟨by rw [show numsB e = false from decide_eq_false (by omega)]; rfl, HF.out⟩
      · go_wp2
        go_ret
        exact ⟨by rw [show numsB e = false from decide_eq_false (by omega)]; rfl, HF.out⟩
    · go_wp2
      go_ret
      exact ⟨by rw [show numsB e = false from decide_eq_false (by omega)]; rfl, HF.out⟩
  · go_wp2
    go_ret
    exact ⟨by rw [show numsB e = false from decide_eq_false (by omega)]; rfl, HF.out⟩

set_option maxRecDepth 100000 in
set_option maxHeartbeats 2000000 in
theorem for_any (e : Ent) (a : Option Addr) (c : Nat) (w : World) : Calls Try.prog 40 #[entV e a c] w fun x w' => x = .returned (.bool (forB e)) ∧ Fr w w' (fun _ => False) := by
  have HB := hide (ebox_eb w e (.slice a e.data.length c))
  have HF := hide (Fr.alloc w (.cells #[.int .i64 e.kind, .int .i64 e.txn, .int .i64 e.page, .int .i64 e.slot, .int .i64 e.stamp, .slice a e.data.length c] 31) (fun _ => False))
  have c0 := HB.out.c0
  have c1 := HB.out.c1
  have c2 := HB.out.c2
  have c3 := HB.out.c3
  have c4 := HB.out.c4
  have c5 := HB.out.c5
  unfold entV
  go_enter Try.func40, Try.ntmps40
  by_cases h3 : e.kind = 3
  · by_cases h4 : e.page = 0
    · by_cases h5 : e.slot = 0
      · by_cases h6 : e.data.length = 0
        · go_wp2
          go_ret
          exact ⟨by simp [forB, h3, h4, h5, List.length_eq_zero_iff.1 h6], Fr.alloc _ _ _⟩
        · have h6' : ¬ e.data = [] := fun h => h6 (by rw [h]; rfl)
          go_wp2
          go_ret
          exact ⟨by simp [forB, h3, h4, h5, h6'], Fr.alloc _ _ _⟩
      · go_wp2
        go_ret
        exact ⟨by simp [forB, h3, h4, h5], Fr.alloc _ _ _⟩
    · go_wp2
      go_ret
      exact ⟨by simp [forB, h3, h4], Fr.alloc _ _ _⟩
  · by_cases h4 : e.stamp = 0
    · by_cases h5 : e.kind = 2
      · by_cases h6 : e.data.length = 0
        · go_wp2
          go_ret
          exact ⟨by simp [forB, h4, h5, List.length_eq_zero_iff.1 h6], Fr.alloc _ _ _⟩
        · have h6' : ¬ e.data = [] := fun h => h6 (by rw [h]; rfl)
          go_wp2
          go_ret
          exact ⟨by simp [forB, h4, h5, h6'], Fr.alloc _ _ _⟩
      · go_wp2
        go_ret
        exact ⟨by simp [forB, h3, h4, h5], Fr.alloc _ _ _⟩
    · go_wp2
      go_ret
      exact ⟨by simp [forB, h3, h4], Fr.alloc _ _ _⟩

set_option maxRecDepth 100000 in
set_option maxHeartbeats 2000000 in
theorem check_any (e : Ent) (a : Option Addr) (c : Nat) (w : World) : Calls Try.prog 29 #[entV e a c] w fun x w' => x = .returned (.int .i64 (chk e)) ∧ Fr w w' (fun _ => False) := by
  have HB := hide (ebox_eb w e (.slice a e.data.length c))
  have HF := hide (Fr.alloc w (.cells #[.int .i64 e.kind, .int .i64 e.txn, .int .i64 e.page, .int .i64 e.slot, .int .i64 e.stamp, .slice a e.data.length c] 31) (fun _ => False))
  have c0 := HB.out.c0
  have c1 := HB.out.c1
  have c2 := HB.out.c2
  have c3 := HB.out.c3
  have c4 := HB.out.c4
  have c5 := HB.out.c5
  unfold entV
  have hk := kind_any e.kind
  have hn := nums_any e a c
  have hf := for_any e a c
  unfold entV at hn hf
  clear c1 c2 c3 c4 c5
  go_enter Try.func29, Try.ntmps29
  go_wp2_with fail
  refine (hk _).mono ?_
  rintro x W ⟨rfl, rfl⟩
  have c1 := HB.out.c1
  have c2 := HB.out.c2
  have c3 := HB.out.c3
  have c4 := HB.out.c4
  have c5 := HB.out.c5
  generalize hb : kindB e.kind = kb
  cases kb with
  | false =>
    go_wp2
    go_ret
    exact ⟨by simp [chk, hb], HF.out⟩
  | true =>
    go_wp2_with fail
    refine (hn _).mono ?_
    rintro x W1 ⟨rfl, f1⟩
    have HB1 := hide (HB.out.fr f1 (fun h => h))
    have HF1 := hide ((HF.out.trans f1).mono (Y := fun _ => False) (by simp))
    clear f1 c0 c1 c2 c3 c4 c5 hn
    have c0 := HB1.out.c0
    have c1 := HB1.out.c1
    have c2 := HB1.out.c2
    have c3 := HB1.out.c3
    have c4 := HB1.out.c4
    have c5 := HB1.out.c5
    generalize hb2 : numsB e = nb
    cases nb with
    | false =>
      go_wp2
      go_ret
      exact ⟨by simp [chk, hb, hb2], HF1.out⟩
    | true =>
      go_wp2_with fail
      refine (hf _).mono ?_
      rintro x W2 ⟨rfl, f2⟩
      have HB2 := hide (HB1.out.fr f2 (fun h => h))
      have HF2 := hide ((HF1.out.trans f2).mono (Y := fun _ => False) (by simp))
      clear f2 c0 c1 c2 c3 c4 c5 hf
      have c5 := HB2.out.c5
      generalize hb3 : forB e = fb
      cases fb with
      | true =>
        go_wp2
        go_ret
        exact ⟨by simp [chk, hb, hb2, hb3], HF2.out⟩
      | false =>
        by_cases hl : 200 < e.data.length
        · go_wp2
          go_ret
          exact ⟨by simp [chk, hb, hb2, hb3, hl], HF2.out⟩
        · go_wp2
          go_ret
          exact ⟨by simp [chk, hb, hb2, hb3, hl], HF2.out⟩
end Go.Proofs.Ytcmabldfegcdaaa
