/- A pool's frames in memory; a frame is pinned, and looked at by the hand. -/
import Derived.Test.YtpjelmlbikmddaaLi
namespace Go.Proofs.Ytpjelmlbikmddaa
open Go.RowKit
set_option maxRecDepth 100000
set_option linter.unusedVariables false

/-- What a frame holds. -/
structure Frm where
  page : Int
  data : List UInt8
  pins : Nat
  used : Bool
  changed : Bool
  mark : Int

/-- A frame's cells, from a place of a block on. -/
structure FrAt (w : World) (g o : Nat) (F : Frm) : Prop where
  page : w.cell? ⟨g, o, none⟩ = some (.int .i64 F.page)
  data : w.rangeAt g (o + 1) (enc F.data)
  pins : w.cell? ⟨g, o + 257, none⟩ = some (.int .i64 (F.pins : Int))
  used : w.cell? ⟨g, o + 258, none⟩ = some (.bool F.used)
  changed : w.cell? ⟨g, o + 259, none⟩ = some (.bool F.changed)
  mark : w.cell? ⟨g, o + 260, none⟩ = some (.int .i64 F.mark)
  len : F.data.length = 256
  z : ∀ j, w.frozen? ⟨g, j, none⟩ = false

theorem FrAt.fr {w w' : World} {X : Nat → Prop} {g o : Nat} {F : Frm} (h : FrAt w g o F) (hf : Fr w w' X) (hx : ¬ X g) : FrAt w' g o F := by
  have hb := hf.block g (World.block_lt_of_cell? w _ h.page) hx
  exact ⟨by rw [World.cell?_of_block (w := w) hb]; exact h.page, rangeAt_fr h.data hf hx, by rw [World.cell?_of_block (w := w) hb]; exact h.pins, by rw [World.cell?_of_block (w := w) hb]; exact h.used, by rw [World.cell?_of_block (w := w) hb]; exact h.changed, by rw [World.cell?_of_block (w := w) hb]; exact h.mark, h.len, fun j => by rw [World.frozen?_of_block (w := w) hb]; exact h.z j⟩

theorem rangeAt_setCell {w : World} {g o : Nat} {cs : List Value} (h : w.rangeAt g o cs) (k : Nat) (v : Value) (hk : k < o ∨ o + cs.length ≤ k) : (w.setCell ⟨g, k, none⟩ v).rangeAt g o cs := fun j x hx => by
  have hj : j < cs.length := by
    rcases Nat.lt_or_ge j cs.length with h2 | h2
    · exact h2
    · rw [List.getElem?_eq_none h2] at hx; exact absurd hx (by simp)
  rw [World.cell?_setCell_other _ _ _ _ (fun hh => by injection hh; omega)]
  exact h j x hx

theorem FrAt.apart {w : World} {g o : Nat} {F : Frm} (h : FrAt w g o F) (k : Nat) (v : Value) (hk : k < o ∨ o + 261 ≤ k) : FrAt (w.setCell ⟨g, k, none⟩ v) g o F :=
  ⟨by rw [World.cell?_setCell_other _ _ _ _ (fun hh => by injection hh; omega)]; exact h.page, rangeAt_setCell h.data k v (by rw [length_enc, h.len]; omega), by rw [World.cell?_setCell_other _ _ _ _ (fun hh => by injection hh; omega)]; exact h.pins, by rw [World.cell?_setCell_other _ _ _ _ (fun hh => by injection hh; omega)]; exact h.used, by rw [World.cell?_setCell_other _ _ _ _ (fun hh => by injection hh; omega)]; exact h.changed, by rw [World.cell?_setCell_other _ _ _ _ (fun hh => by injection hh; omega)]; exact h.mark, h.len, fun j => by rw [World.frozen?_setCell]; exact h.z j⟩
theorem FrAt.setPins {w : World} {g o : Nat} {F : Frm} (h : FrAt w g o F) (n : Nat) : FrAt (w.setCell ⟨g, o + 257, none⟩ (.int .i64 (n : Int))) g o { F with pins := n } :=
  ⟨by rw [World.cell?_setCell_other _ _ _ _ (by simp)]; exact h.page, rangeAt_setCell h.data _ _ (by rw [length_enc, h.len]; omega), World.cell?_setCell_same _ _ _ h.pins, by rw [World.cell?_setCell_other _ _ _ _ (by simp)]; exact h.used, by rw [World.cell?_setCell_other _ _ _ _ (by simp)]; exact h.changed, by rw [World.cell?_setCell_other _ _ _ _ (by simp)]; exact h.mark, h.len, fun j => by rw [World.frozen?_setCell]; exact h.z j⟩
theorem FrAt.setUsed {w : World} {g o : Nat} {F : Frm} (h : FrAt w g o F) (n : Bool) : FrAt (w.setCell ⟨g, o + 258, none⟩ (.bool n)) g o { F with used := n } :=
  ⟨by rw [World.cell?_setCell_other _ _ _ _ (by simp)]; exact h.page, rangeAt_setCell h.data _ _ (by rw [length_enc, h.len]; omega), by rw [World.cell?_setCell_other _ _ _ _ (by simp)]; exact h.pins, World.cell?_setCell_same _ _ _ h.used, by rw [World.cell?_setCell_other _ _ _ _ (by simp)]; exact h.changed, by rw [World.cell?_setCell_other _ _ _ _ (by simp)]; exact h.mark, h.len, fun j => by rw [World.frozen?_setCell]; exact h.z j⟩
theorem FrAt.setChanged {w : World} {g o : Nat} {F : Frm} (h : FrAt w g o F) (n : Bool) : FrAt (w.setCell ⟨g, o + 259, none⟩ (.bool n)) g o { F with changed := n } :=
  ⟨by rw [World.cell?_setCell_other _ _ _ _ (by simp)]; exact h.page, rangeAt_setCell h.data _ _ (by rw [length_enc, h.len]; omega), by rw [World.cell?_setCell_other _ _ _ _ (by simp)]; exact h.pins, by rw [World.cell?_setCell_other _ _ _ _ (by simp)]; exact h.used, World.cell?_setCell_same _ _ _ h.changed, by rw [World.cell?_setCell_other _ _ _ _ (by simp)]; exact h.mark, h.len, fun j => by rw [World.frozen?_setCell]; exact h.z j⟩
theorem FrAt.setMark {w : World} {g o : Nat} {F : Frm} (h : FrAt w g o F) (n : Int) : FrAt (w.setCell ⟨g, o + 260, none⟩ (.int .i64 n)) g o { F with mark := n } :=
  ⟨by rw [World.cell?_setCell_other _ _ _ _ (by simp)]; exact h.page, rangeAt_setCell h.data _ _ (by rw [length_enc, h.len]; omega), by rw [World.cell?_setCell_other _ _ _ _ (by simp)]; exact h.pins, by rw [World.cell?_setCell_other _ _ _ _ (by simp)]; exact h.used, by rw [World.cell?_setCell_other _ _ _ _ (by simp)]; exact h.changed, World.cell?_setCell_same _ _ _ h.mark, h.len, fun j => by rw [World.frozen?_setCell]; exact h.z j⟩

theorem pin_any {w : World} {g o : Nat} {F : Frm} (h : FrAt w g o F) (hp : F.pins ≤ 4611686018427387904) :
    Calls Try.prog 29 #[.pointer (some ⟨g, o, none⟩)] w fun e w' => e = .returned (.tuple #[]) ∧ w' = (w.setCell ⟨g, o + 257, none⟩ (.int .i64 ((F.pins : Int) + 1))).setCell ⟨g, o + 258, none⟩ (.bool true) := by
  have c2 := h.pins
  have z := h.z
  have wk : IntKind.i64.wrap ((F.pins : Int) + 1) = (F.pins : Int) + 1 := by rw [IntKind.wrap_i64]; omega
  have c3 : (w.setCell ⟨g, o + 257, none⟩ (.int .i64 ((F.pins : Int) + 1))).cell? ⟨g, o + 258, none⟩ = some (.bool F.used) := (h.setPins (F.pins + 1)).used
  have z3 := (h.setPins (F.pins + 1)).z
  go_enter Try.func29, Try.ntmps29
  go_wp2
  go_end0
  exact ⟨rfl, rfl⟩

theorem stays_pinned {w : World} {g o : Nat} {F : Frm} (h : FrAt w g o F) (hp : F.pins ≠ 0) :
    Calls Try.prog 48 #[.pointer (some ⟨g, o, none⟩)] w fun e w' => e = .returned (.bool true) ∧ w' = w := by
  have c2 := h.pins
  have e : decide ((F.pins : Int) > 0) = true := by simp; omega
  have e' : decide ((0 : Int) < (F.pins : Int)) = true := by simp; omega
  go_enter Try.func48, Try.ntmps48
  go_wp2
  go_ret
  exact ⟨rfl, rfl⟩
theorem stays_free {w : World} {g o : Nat} {F : Frm} (h : FrAt w g o F) (hp : F.pins = 0) :
    Calls Try.prog 48 #[.pointer (some ⟨g, o, none⟩)] w fun e w' => e = .returned (.bool F.used) ∧ w' = w.setCell ⟨g, o + 258, none⟩ (.bool false) := by
  have c2 := h.pins
  rw [hp] at c2
  have c3 := h.used
  have z := h.z
  go_enter Try.func48, Try.ntmps48
  go_wp2
  go_ret
  exact ⟨rfl, rfl⟩

/-- A pool's box: its disk, its sectors, its frames, the hand, its logs. -/
abbrev PoolAt (w : World) (p b first count gf n c hand : Nat) (lv : Value) : Prop := Six w p (.pointer (some ⟨b, 0, none⟩)) (.int .i64 (first : Int)) (.int .i64 (count : Int)) (.slice (some ⟨gf, 0, none⟩) n c) (.int .i64 (hand : Int)) lv

theorem pages_any {w : World} {p b first count gf n c hand : Nat} {lv : Value} (h : PoolAt w p b first count gf n c hand lv) :
    Calls Try.prog 11 #[.pointer (some ⟨p, 0, none⟩)] w fun e w' => e = .returned (.int .i64 (count : Int)) ∧ w' = w := by
  have c2 := h.c2
  go_enter Try.func11, Try.ntmps11
  go_wp2
  go_ret
  exact ⟨rfl, rfl⟩

theorem phas_yes {w : World} {p b first count gf n c hand : Nat} {lv : Value} (h : PoolAt w p b first count gf n c hand lv) (k : Int) (h0 : 0 ≤ k) (h1 : k < (count : Int)) :
    Calls Try.prog 27 #[.pointer (some ⟨p, 0, none⟩), .int .i64 k] w fun e w' => e = .returned (.bool true) ∧ w' = w := by
  have c2 := h.c2
  have e0 : decide (k ≥ 0) = true := by simp; omega
  have e1 : decide (k < (count : Int)) = true := by simp; omega
  go_enter Try.func27, Try.ntmps27
  go_wp2
  go_ret
  exact ⟨rfl, rfl⟩
theorem phas_no {w : World} {p b first count gf n c hand : Nat} {lv : Value} (h : PoolAt w p b first count gf n c hand lv) (k : Int) (hk : ¬ (0 ≤ k ∧ k < (count : Int))) :
    Calls Try.prog 27 #[.pointer (some ⟨p, 0, none⟩), .int .i64 k] w fun e w' => e = .returned (.bool false) ∧ w' = w := by
  have c2 := h.c2
  by_cases h0 : 0 ≤ k
  · have e1 : ¬ k < (count : Int) := fun h1 => hk ⟨h0, h1⟩
    clear hk
    go_enter Try.func27, Try.ntmps27
    go_wp2
    go_ret
    exact ⟨rfl, rfl⟩
  · clear hk
    go_enter Try.func27, Try.ntmps27
    go_wp2
    go_ret
    exact ⟨rfl, rfl⟩
end Go.Proofs.Ytpjelmlbikmddaa

/- The frame in which a page is. -/
namespace Go.Proofs.Ytpjelmlbikmddaa
open Go.RowKit
set_option maxRecDepth 100000
set_option linter.unusedVariables false

/-- A row of frames in a block. -/
def FrsAt (w : World) (gf : Nat) (L : List Frm) : Prop := ∀ j F, L[j]? = some F → FrAt w gf (j * 261) F
theorem FrsAt.fr {w w' : World} {X : Nat → Prop} {gf : Nat} {L : List Frm} (h : FrsAt w gf L) (hf : Fr w w' X) (hx : ¬ X gf) : FrsAt w' gf L := fun j F hj => (h j F hj).fr hf hx
/-- One frame's cells are other ones, the others' are as they were. -/
theorem FrsAt.put {w w' : World} {gf : Nat} {L : List Frm} (h : FrsAt w gf L) (j : Nat) (F : Frm) (hj : FrAt w' gf (j * 261) F) (ho : ∀ o G, (o + 261 ≤ j * 261 ∨ j * 261 + 261 ≤ o) → FrAt w gf o G → FrAt w' gf o G) : FrsAt w' gf (L.set j F) := by
  intro i G hi
  by_cases hij : i = j
  · subst hij
    rw [List.getElem?_set] at hi
    split at hi
    · split at hi
      · cases hi; exact hj
      · exact absurd hi (by simp)
    · exact absurd rfl (by assumption)
  · rw [List.getElem?_set_ne (fun e => hij e.symm)] at hi
    refine ho _ _ ?_ (h i G hi)
    rcases Nat.lt_or_gt_of_ne hij with h2 | h2 <;> omega

def fptr (gf : Nat) : Option Nat → Value
  | none => .pointer none
  | some j => .pointer (some ⟨gf, j * 261, none⟩)
/-- Which frame has a page. -/
def seekP (L : List Frm) (page : Int) : Option Nat := L.findIdx? (fun F => F.page == page)
theorem seekP_none {L : List Frm} {page : Int} (h : ∀ (j : Nat) F, j < L.length → L[j]? = some F → F.page ≠ page) : seekP L page = none := by
  rw [seekP, List.findIdx?_eq_none_iff]
  intro F hF
  obtain ⟨j, hj⟩ := List.getElem?_of_mem hF
  have hl : j < L.length := by
    rcases Nat.lt_or_ge j L.length with h2 | h2
    · exact h2
    · rw [List.getElem?_eq_none h2] at hj; exact absurd hj (by simp)
  simpa using h j F hl hj
theorem seekP_some {L : List Frm} {page : Int} {k : Nat} {F : Frm} (hk : L[k]? = some F) (hp : F.page = page) (h : ∀ (j : Nat) F, j < k → L[j]? = some F → F.page ≠ page) : seekP L page = some k := by
  have hl : k < L.length := by
    rcases Nat.lt_or_ge k L.length with h2 | h2
    · exact h2
    · rw [List.getElem?_eq_none h2] at hk; exact absurd hk (by simp)
  rw [seekP, List.findIdx?_eq_some_iff_getElem]
  refine ⟨hl, ?_, ?_⟩
  · rw [List.getElem?_eq_getElem hl] at hk
    cases hk
    simpa using hp
  · intro j hj
    simpa using h j _ hj (List.getElem?_eq_getElem (by omega))
theorem seekP_out {L : List Frm} {page : Int} {k : Nat} (h : seekP L page = some k) : ∃ F, L[k]? = some F ∧ F.page = page ∧ ∀ (j : Nat) F, j < k → L[j]? = some F → F.page ≠ page := by
  rw [seekP, List.findIdx?_eq_some_iff_getElem] at h
  obtain ⟨hl, h1, h2⟩ := h
  refine ⟨L[k], List.getElem?_eq_getElem hl, by simpa using h1, fun j F hj hF => ?_⟩
  rw [List.getElem?_eq_getElem (by omega)] at hF
  cases hF
  simpa using h2 j hj

set_option maxHeartbeats 1000000 in
theorem frameOf_any {w : World} {p b first count gf c hand : Nat} {lv : Value} {L : List Frm} (h : PoolAt w p b first count gf L.length c hand lv) (hF : FrsAt w gf L) (hL : L.length ≤ 4096) (page : Int) :
    Calls Try.prog 28 #[.pointer (some ⟨p, 0, none⟩), .int .i64 page] w fun e w' => e = .returned (fptr gf (seekP L page)) ∧ w' = w := by
  have c3 := h.c3
  go_enter Try.func28, Try.ntmps28
  go_wp2
  go_loop [11] (fun i => ∃ k : Nat, k ≤ L.length ∧ i = .int .i64 (k : Int) ∧ ∀ (j : Nat) F, j < k → L[j]? = some F → F.page ≠ page) (fun i => L.length - (intOf i).toNat)
  case atStart => exact ⟨0, Nat.zero_le _, rfl, fun j F hj => absurd hj (by omega)⟩
  case round =>
    obtain ⟨k, hk, rfl, hno⟩ := hrel
    have HN := hide hno
    clear hno
    rcases Nat.lt_or_ge k L.length with hlt | hge
    · obtain ⟨F, hkF⟩ : ∃ F, L[k]? = some F := ⟨_, List.getElem?_eq_getElem hlt⟩
      have hcell := (hF k F hkF).page
      have HK := hide hkF
      clear hkF
      by_cases hp : F.page = page
      · have hq : (F.page == page) = true := by simp [hp]
        have HP := hide hp
        clear hp
        go_wp2
        go_ret
        exact ⟨by rw [seekP_some HK.out HP.out HN.out]; rfl, rfl⟩
      · have hq : (F.page == page) = false := by simp [hp]
        have HP := hide hp
        clear hp
        go_wp2
        go_round
        case rel =>
          refine ⟨k + 1, by omega, by go_num, fun j G hj hG => ?_⟩
          rcases Nat.lt_or_ge j k with h2 | h2
          · exact HN.out j G h2 hG
          · have e : j = k := by omega
            subst e
            rw [HK.out] at hG
            cases hG
            exact HP.out
        case measure => simp [intOf]; omega
    · have e : k = L.length := by omega
      subst e
      go_wp2
      go_ret
      exact ⟨by rw [seekP_none HN.out]; rfl, rfl⟩
end Go.Proofs.Ytpjelmlbikmddaa

/- A pinned page's frame; Unpin. -/
namespace Go.Proofs.Ytpjelmlbikmddaa
open Go.RowKit
set_option maxRecDepth 100000
set_option linter.unusedVariables false

/-- Which frame has a page that is pinned. -/
def pinnedP (L : List Frm) (page : Int) : Option Nat :=
  match seekP L page with
  | none => none
  | some j => if (L[j]?.map Frm.pins).getD 0 = 0 then none else some j
theorem pinnedP_out {L : List Frm} {page : Int} {k : Nat} (h : pinnedP L page = some k) : ∃ F, L[k]? = some F ∧ F.page = page ∧ F.pins ≠ 0 ∧ seekP L page = some k := by
  unfold pinnedP at h
  split at h
  · exact absurd h (by simp)
  · rename_i j hj
    obtain ⟨F, h1, h2, _⟩ := seekP_out hj
    simp only [h1, Option.map_some, Option.getD_some] at h
    split at h
    · exact absurd h (by simp)
    · cases h
      exact ⟨F, h1, h2, by assumption, hj⟩

set_option maxHeartbeats 1000000 in
theorem pinned_any {w : World} {p b first count gf c hand : Nat} {lv : Value} {L : List Frm} (h : PoolAt w p b first count gf L.length c hand lv) (hF : FrsAt w gf L) (hL : L.length ≤ 4096) (page : Int) :
    Calls Try.prog 32 #[.pointer (some ⟨p, 0, none⟩), .int .i64 page] w fun e w' => e = .returned (fptr gf (pinnedP L page)) ∧ w' = w := by
  have HO := hide (frameOf_any h hF hL page)
  cases hs : seekP L page with
  | none =>
    rw [hs] at HO
    have hr : pinnedP L page = none := by simp [pinnedP, hs]
    rw [hr]
    clear hs hr
    go_enter Try.func32, Try.ntmps32
    go_wp2_with (go_at_call 28; refine HO.out.mono ?_; rintro e w' ⟨rfl, rfl⟩; simp only [fptr])
    go_ret
    exact ⟨rfl, rfl⟩
  | some j =>
    rw [hs] at HO
    obtain ⟨F, h1, h2, _⟩ := seekP_out hs
    have cp := (hF j F h1).pins
    by_cases hp : F.pins = 0
    · have hr : pinnedP L page = none := by simp [pinnedP, hs, h1, hp]
      rw [hr]
      rw [hp] at cp
      clear hs hr h1
      go_enter Try.func32, Try.ntmps32
      go_wp2_with (go_at_call 28; refine HO.out.mono ?_; rintro e w' ⟨rfl, rfl⟩; simp only [fptr])
      go_ret
      exact ⟨rfl, rfl⟩
    · have hr : pinnedP L page = some j := by simp [pinnedP, hs, h1, hp]
      have hq : ((F.pins : Int) == 0) = false := by simp; omega
      rw [hr]
      clear hs hr h1
      go_enter Try.func32, Try.ntmps32
      go_wp2_with (go_at_call 28; refine HO.out.mono ?_; rintro e w' ⟨rfl, rfl⟩; simp only [fptr])
      go_ret
      exact ⟨rfl, rfl⟩

set_option maxHeartbeats 1000000 in
theorem unpin_no {w : World} {p b first count gf c hand : Nat} {lv : Value} {L : List Frm} (h : PoolAt w p b first count gf L.length c hand lv) (hF : FrsAt w gf L) (hL : L.length ≤ 4096) (page : Int) (hn : pinnedP L page = none) :
    Calls Try.prog 18 #[.pointer (some ⟨p, 0, none⟩), .int .i64 page] w fun e w' => e = .returned (.int .i64 61) ∧ w' = w := by
  have HO := hide (pinned_any h hF hL page)
  rw [hn] at HO
  go_enter Try.func18, Try.ntmps18
  go_wp2_with (go_at_call 32; refine HO.out.mono ?_; rintro e w' ⟨rfl, rfl⟩; simp only [fptr])
  go_ret
  exact ⟨rfl, rfl⟩
set_option maxHeartbeats 1000000 in
theorem unpin_yes {w : World} {p b first count gf c hand : Nat} {lv : Value} {L : List Frm} (h : PoolAt w p b first count gf L.length c hand lv) (hF : FrsAt w gf L) (hL : L.length ≤ 4096) (page : Int) {j : Nat} {F : Frm} (hj : pinnedP L page = some j) (hjF : L[j]? = some F) (hb : F.pins ≤ 4611686018427387904) :
    Calls Try.prog 18 #[.pointer (some ⟨p, 0, none⟩), .int .i64 page] w fun e w' => e = .returned (.int .i64 0) ∧ FrsAt w' gf (L.set j { F with pins := F.pins - 1 }) ∧ Fr w w' (fun k => k = gf) := by
  have HO := hide (pinned_any h hF hL page)
  rw [hj] at HO
  obtain ⟨F', h1, h2, h3, _⟩ := pinnedP_out hj
  rw [hjF] at h1
  cases h1
  have hA := hF j F hjF
  have cp := hA.pins
  have z := hA.z
  have wk : IntKind.i64.wrap ((F.pins : Int) - 1) = (F.pins : Int) - 1 := by rw [IntKind.wrap_i64]; omega
  go_enter Try.func18, Try.ntmps18
  go_wp2_with (go_at_call 32; refine HO.out.mono ?_; rintro e w' ⟨rfl, rfl⟩; simp only [fptr])
  go_ret
  refine ⟨rfl, ?_, Fr.setCell _ _ _⟩
  rw [show ((F.pins : Int) - 1) = ((F.pins - 1 : Nat) : Int) by omega]
  exact hF.put j _ (hA.setPins _) (fun o G ho hG => hG.apart _ _ (by omega))
end Go.Proofs.Ytpjelmlbikmddaa

/- Put. -/
namespace Go.Proofs.Ytpjelmlbikmddaa
open Go.RowKit
set_option maxRecDepth 100000
set_option linter.unusedVariables false

theorem cell_setCells_off {w : World} {g k o : Nat} {vs : List Value} (h : k < o ∨ o + vs.length ≤ k) : (w.setCells g o vs).cell? ⟨g, k, none⟩ = w.cell? ⟨g, k, none⟩ :=
  World.cell?_setCells_out g vs o w ⟨g, k, none⟩ (fun _ _ => by simp; omega)
theorem FrAt.thereD {w : World} {g o : Nat} {F : Frm} (h : FrAt w g o F) : w.there g (o + 1) 256 := fun j hj =>
  ⟨h.data.isSome j (by rw [length_enc, h.len]; exact hj), h.z _⟩
theorem FrAt.setData {w : World} {g o : Nat} {F : Frm} (h : FrAt w g o F) (l : List UInt8) (hl : l.length = 256) : FrAt (w.setCells g (o + 1) (enc l)) g o { F with data := l } := by
  have he : (enc l).length = 256 := by rw [length_enc, hl]
  exact ⟨by rw [cell_setCells_off (by omega)]; exact h.page, World.rangeAt_setCells_same _ _ _ _ (by rw [he]; exact h.thereD), by rw [cell_setCells_off (by omega)]; exact h.pins, by rw [cell_setCells_off (by omega)]; exact h.used, by rw [cell_setCells_off (by omega)]; exact h.changed, by rw [cell_setCells_off (by omega)]; exact h.mark, hl, fun j => by rw [World.frozen?_setCells]; exact h.z j⟩
theorem FrAt.apartS {w : World} {g o : Nat} {F : Frm} (h : FrAt w g o F) (k : Nat) (vs : List Value) (hk : k + vs.length ≤ o ∨ o + 261 ≤ k) : FrAt (w.setCells g k vs) g o F :=
  ⟨by rw [cell_setCells_off (by omega)]; exact h.page, World.rangeAt_setCells_apart h.data _ _ _ (by rw [length_enc, h.len]; omega), by rw [cell_setCells_off (by omega)]; exact h.pins, by rw [cell_setCells_off (by omega)]; exact h.used, by rw [cell_setCells_off (by omega)]; exact h.changed, by rw [cell_setCells_off (by omega)]; exact h.mark, h.len, fun j => by rw [World.frozen?_setCells]; exact h.z j⟩
theorem Fr.setCells (g : Nat) : ∀ (vs : List Value) (o : Nat) (w : World), Fr w (w.setCells g o vs) (fun k => k = g)
  | [], _, w => Fr.refl w _
  | v :: r, o, w => by
    rw [World.setCells]
    exact ((Fr.setCell w ⟨g, o, none⟩ v).trans (Fr.setCells g r (o + 1) _)).mono (by intro k _ h; rcases h with h | h <;> exact h)

theorem info70b : (Try.prog.info? 70).map (·.size) = some 256 := by kernel_rfl

set_option maxHeartbeats 1000000 in
theorem put_no {w : World} {p b first count gf c hand : Nat} {lv d : Value} {L : List Frm} (h : PoolAt w p b first count gf L.length c hand lv) (hF : FrsAt w gf L) (hL : L.length ≤ 4096) (page m : Int) (hn : pinnedP L page = none) :
    Calls Try.prog 17 #[.pointer (some ⟨p, 0, none⟩), .int .i64 page, d, .int .i64 m] w fun e w' => e = .returned (.int .i64 61) ∧ w' = w := by
  have HO := hide (pinned_any h hF hL page)
  rw [hn] at HO
  go_enter Try.func17, Try.ntmps17
  go_wp2_with (go_at_call 32; refine HO.out.mono ?_; rintro e w' ⟨rfl, rfl⟩; simp only [fptr])
  go_ret
  exact ⟨rfl, rfl⟩
set_option maxHeartbeats 1000000 in
theorem put_length {w : World} {p b first count gf c hand : Nat} {lv : Value} {L : List Frm} (h : PoolAt w p b first count gf L.length c hand lv) (hF : FrsAt w gf L) (hL : L.length ≤ 4096) (page m : Int) {j : Nat} (hn : pinnedP L page = some j) (da : Option Addr) (dl dc : Nat) (hl : ((dl : Int) != 256) = true) :
    Calls Try.prog 17 #[.pointer (some ⟨p, 0, none⟩), .int .i64 page, .slice da dl dc, .int .i64 m] w fun e w' => e = .returned (.int .i64 10) ∧ w' = w := by
  have HO := hide (pinned_any h hF hL page)
  rw [hn] at HO
  go_enter Try.func17, Try.ntmps17
  go_wp2_with (go_at_call 32; refine HO.out.mono ?_; rintro e w' ⟨rfl, rfl⟩; simp only [fptr])
  go_ret
  exact ⟨rfl, rfl⟩
set_option maxHeartbeats 1000000 in
theorem put_yes {w : World} {p b first count gf c hand : Nat} {lv : Value} {L : List Frm} (h : PoolAt w p b first count gf L.length c hand lv) (hF : FrsAt w gf L) (hL : L.length ≤ 4096) (page m : Int) {j : Nat} {F : Frm} (hj : pinnedP L page = some j) (hjF : L[j]? = some F)
    (g off dc : Nat) (l : List UInt8) (hl : l.length = 256) (hr : w.rangeAt g off (enc l)) :
    Calls Try.prog 17 #[.pointer (some ⟨p, 0, none⟩), .int .i64 page, .slice (some ⟨g, off, none⟩) 256 dc, .int .i64 m] w fun e w' => e = .returned (.int .i64 0) ∧ FrsAt w' gf (L.set j { F with data := l, changed := true, mark := max F.mark m }) ∧ Fr w w' (fun k => k = gf) := by
  have HO := hide (pinned_any h hF hL page)
  rw [hj] at HO
  have hA := hF j F hjF
  have ra := fun w1 => run_arrayAt (P := Try.prog) (w := w1) 70 5 256 (some ⟨g, off, none⟩) 256 dc Try.underlying70 (Nat.le_refl _)
  have HR := hide hr
  have he : (enc l).length = 256 := by rw [length_enc, hl]
  have HI := hide (by rw [he]; exact info70b : (Try.prog.info? 70).map (·.size) = some (enc l).length)
  have HI2 := hide (by rw [List.size_toArray, he]; exact info70b : (Try.prog.info? 70).map (·.size) = some (enc l).toArray.size)
  have HT := hide (by rw [List.size_toArray, he]; exact hA.thereD : w.there gf (j * 261 + 1) (enc l).toArray.size)
  have hB := hA.setData l hl
  obtain ⟨W1, hW1⟩ : ∃ W1, W1 = w.setCells gf (j * 261 + 1) (enc l).toArray.toList := ⟨_, rfl⟩
  have hB1 : FrAt W1 gf (j * 261) { F with data := l } := by rw [hW1]; exact hB
  have F1 : Fr w W1 (fun k => k = gf) := by rw [hW1]; exact Fr.setCells _ _ _ _
  have hO1 : ∀ o G, (o + 261 ≤ j * 261 ∨ j * 261 + 261 ≤ o) → FrAt w gf o G → FrAt W1 gf o G := by
    intro o G ho hG
    rw [hW1]
    exact hG.apartS _ _ (by simp only [he]; omega)
  have HW1 := hide hW1
  clear hB hW1 hr
  have z1 := hB1.z
  have k1 := hB1.changed
  have hB2 := hB1.setChanged true
  have k2 := hB2.mark
  have z2 := hB2.z
  have HF := hide hF
  clear hF hA
  go_enter Try.func17, Try.ntmps17
  go_wp2_with (first
    | (go_at_call 32; refine HO.out.mono ?_; rintro e w' ⟨rfl, rfl⟩; simp only [fptr])
    | (refine wpList_load_mid rfl 70 (.tmp 20) rfl g off rfl (enc l) (.array 256 5) HR.out Try.underlying70 rfl HI.out ?_)
    | (refine wpList_store_mid rfl 70 (.tmp 23) (.tmp 21) rfl gf (j * 261 + 1) (enc l).toArray rfl rfl HT.out HI2.out (all_oneCell_toArray (enc_oneCell _)) ?_; rw [← HW1.out]))
  all_goals
    go_ret
    refine ⟨rfl, ?_, ((F1.trans (Fr.setCell W1 _ _)).trans (Fr.setCell _ _ _)).mono (by intro k _ h1; rcases h1 with (h1 | h1) | h1 <;> exact h1)⟩
    first | rw [show max F.mark m = m by omega] | rw [show max F.mark m = F.mark by omega]
    exact HF.out.put j _ (hB2.setMark _) (fun o G ho hG => ((hO1 o G ho hG).apart _ _ (by omega)).apart _ _ (by omega))
end Go.Proofs.Ytpjelmlbikmddaa

/- pass: the hand goes on. -/
namespace Go.Proofs.Ytpjelmlbikmddaa
open Go.RowKit
set_option maxRecDepth 100000
set_option linter.unusedVariables false

set_option maxHeartbeats 1000000 in
theorem pass_any {w : World} {p b first count gf n c hand : Nat} {lv : Value} (h : PoolAt w p b first count gf n c hand lv) (hn : n ≤ 4096) (hh : hand < n) :
    Calls Try.prog 47 #[.pointer (some ⟨p, 0, none⟩)] w fun e w' => e = .returned (.pointer (some ⟨gf, hand * 261, none⟩)) ∧ PoolAt w' p b first count gf n c ((hand + 1) % n) lv ∧ Fr w w' (fun k => k = p) := by
  have HP := hide h
  have wk : IntKind.i64.wrap ((hand : Int) + 1) = (hand : Int) + 1 := by rw [IntKind.wrap_i64]; omega
  have hrem : Int.tmod ((hand : Int) + 1) (n : Int) = ((hand : Int) + 1) % (n : Int) := Int.tmod_eq_emod_of_nonneg (by omega)
  have hz : ((n : Int) == 0) = false := by simp; omega
  have hS : (fun V : World => V.cell? ⟨p, 3, none⟩ = some (.slice (some ⟨gf, 0, none⟩) n c) ∧ V.cell? ⟨p, 4, none⟩ = some (.int .i64 (hand : Int))) w.drew := ⟨by simpa using h.c3, by simpa using h.c4⟩
  clear h
  go_enter Try.func47, Try.ntmps47
  go_wp2_with fail
  refine wp_region_K (fun _ => true) (fun V => V.cell? ⟨p, 3, none⟩ = some (.slice (some ⟨gf, 0, none⟩) n c) ∧ V.cell? ⟨p, 4, none⟩ = some (.int .i64 (hand : Int))) (by kernel_rfl) ?_
  refine wpAnyK_takeTo 0 (some 4) (.pointer (some ⟨p, 0, none⟩)) [] rfl rfl (by kernel_rfl) (by kernel_rfl) (by kernel_rfl) (by kernel_rfl) (fun _ _ _ h => h) hS (Or.inl ⟨rfl, fun w1 hw1 => by go_simp⟩) ?_
  simp only [Act.put, List.setIfInBounds_toArray, List.set_cons_zero, List.set_cons_succ]
  refine wpAnyK_takeTo 1 (some 5) (.pointer (some ⟨p, 0, none⟩)) [] rfl rfl (by kernel_rfl) (by kernel_rfl) (by kernel_rfl) (by kernel_rfl) (fun _ _ _ h => h) hS (Or.inl ⟨rfl, fun w1 hw1 => by go_simp⟩) ?_
  simp only [Act.put, List.setIfInBounds_toArray, List.set_cons_zero, List.set_cons_succ]
  refine wpAnyK_takeTo 2 (some 6) (.pointer (some ⟨p, 3, none⟩)) [] rfl rfl (by kernel_rfl) (by kernel_rfl) (by kernel_rfl) (by kernel_rfl) (fun _ _ _ h => h) hS (Or.inl ⟨rfl, fun w1 hw1 => by go_simp⟩) ?_
  simp only [Act.put, List.setIfInBounds_toArray, List.set_cons_zero, List.set_cons_succ]
  refine wpAnyK_takeTo 3 (some 7) (.slice (some ⟨gf, 0, none⟩) n c) [] rfl rfl (by kernel_rfl) (by kernel_rfl) (by kernel_rfl) (by kernel_rfl) (fun _ _ _ h => h) hS (Or.inl ⟨rfl, fun w1 hw1 => by obtain ⟨x3, x4⟩ := hw1; go_simp⟩) ?_
  simp only [Act.put, List.setIfInBounds_toArray, List.set_cons_zero, List.set_cons_succ]
  refine wpAnyK_takeTo 4 (some 8) (.pointer (some ⟨p, 0, none⟩)) [] rfl rfl (by kernel_rfl) (by kernel_rfl) (by kernel_rfl) (by kernel_rfl) (fun _ _ _ h => h) hS (Or.inl ⟨rfl, fun w1 hw1 => by go_simp⟩) ?_
  simp only [Act.put, List.setIfInBounds_toArray, List.set_cons_zero, List.set_cons_succ]
  refine wpAnyK_takeTo 5 (some 9) (.pointer (some ⟨p, 0, none⟩)) [] rfl rfl (by kernel_rfl) (by kernel_rfl) (by kernel_rfl) (by kernel_rfl) (fun _ _ _ h => h) hS (Or.inl ⟨rfl, fun w1 hw1 => by go_simp⟩) ?_
  simp only [Act.put, List.setIfInBounds_toArray, List.set_cons_zero, List.set_cons_succ]
  refine wpAnyK_takeTo 6 (some 10) (.pointer (some ⟨p, 4, none⟩)) [] rfl rfl (by kernel_rfl) (by kernel_rfl) (by kernel_rfl) (by kernel_rfl) (fun _ _ _ h => h) hS (Or.inl ⟨rfl, fun w1 hw1 => by go_simp⟩) ?_
  simp only [Act.put, List.setIfInBounds_toArray, List.set_cons_zero, List.set_cons_succ]
  refine wpAnyK_takeTo 7 (some 11) (.int .i64 (hand : Int)) [] rfl rfl (by kernel_rfl) (by kernel_rfl) (by kernel_rfl) (by kernel_rfl) (fun _ _ _ h => h) hS (Or.inl ⟨rfl, fun w1 hw1 => by obtain ⟨x3, x4⟩ := hw1; go_simp⟩) ?_
  simp only [Act.put, List.setIfInBounds_toArray, List.set_cons_zero, List.set_cons_succ]
  refine wpAnyK_takeTo 8 (some 12) (.pointer (some ⟨gf, hand * 261, none⟩)) [] rfl rfl (by kernel_rfl) (by kernel_rfl) (by kernel_rfl) (by kernel_rfl) (fun _ _ _ h => h) hS (Or.inl ⟨rfl, fun w1 hw1 => by go_simp⟩) ?_
  simp only [Act.put, List.setIfInBounds_toArray, List.set_cons_zero, List.set_cons_succ]
  refine wpAnyK_takeTo 9 (some 3) (.pointer (some ⟨gf, hand * 261, none⟩)) [] rfl rfl (by kernel_rfl) (by kernel_rfl) (by kernel_rfl) (by kernel_rfl) (fun _ _ _ h => h) hS (Or.inl ⟨rfl, fun w1 hw1 => by go_simp⟩) ?_
  simp only [Act.put, List.setIfInBounds_toArray, List.set_cons_zero, List.set_cons_succ]
  refine wpAnyK_done (by kernel_rfl) ?_ _
  have F1 : Fr w w.drew (fun _ => False) := Fr.drew w _
  have hP1 := HP.out.fr F1 (fun h => h)
  generalize w.drew = W1 at *
  have hS : (fun V : World => V.cell? ⟨p, 3, none⟩ = some (.slice (some ⟨gf, 0, none⟩) n c) ∧ V.cell? ⟨p, 4, none⟩ = some (.int .i64 (hand : Int))) W1.drew := ⟨by simpa using hP1.c3, by simpa using hP1.c4⟩
  go_wp2_with fail
  refine wp_region_K (fun j => decide (j ≠ 14)) (fun V => V.cell? ⟨p, 3, none⟩ = some (.slice (some ⟨gf, 0, none⟩) n c) ∧ V.cell? ⟨p, 4, none⟩ = some (.int .i64 (hand : Int))) (by kernel_rfl) ?_
  refine wpAnyK_takeTo 0 (some 13) (.pointer (some ⟨p, 0, none⟩)) [14] rfl rfl (by kernel_rfl) (by kernel_rfl) (by kernel_rfl) (by kernel_rfl) (fun _ _ _ h => h) hS (Or.inl ⟨rfl, fun w1 hw1 => by go_simp⟩) ?_
  simp only [Act.put, List.setIfInBounds_toArray, List.set_cons_zero, List.set_cons_succ]
  refine wpAnyK_takeTo 1 (some 14) (.pointer (some ⟨p, 0, none⟩)) [14] rfl rfl (by kernel_rfl) (by kernel_rfl) (by kernel_rfl) (by kernel_rfl) (fun _ _ _ h => h) hS (Or.inl ⟨rfl, fun w1 hw1 => by go_simp⟩) ?_
  simp only [Act.put, List.setIfInBounds_toArray, List.set_cons_zero, List.set_cons_succ]
  refine wpAnyK_takeTo 2 (some 15) (.pointer (some ⟨p, 0, none⟩)) [14] rfl rfl (by kernel_rfl) (by kernel_rfl) (by kernel_rfl) (by kernel_rfl) (fun _ _ _ h => h) hS (Or.inl ⟨rfl, fun w1 hw1 => by go_simp⟩) ?_
  simp only [Act.put, List.setIfInBounds_toArray, List.set_cons_zero, List.set_cons_succ]
  refine wpAnyK_takeTo 3 (some 16) (.pointer (some ⟨p, 4, none⟩)) [14] rfl rfl (by kernel_rfl) (by kernel_rfl) (by kernel_rfl) (by kernel_rfl) (fun _ _ _ h => h) hS (Or.inl ⟨rfl, fun w1 hw1 => by go_simp⟩) ?_
  simp only [Act.put, List.setIfInBounds_toArray, List.set_cons_zero, List.set_cons_succ]
  refine wpAnyK_takeTo 4 (some 17) (.int .i64 (hand : Int)) [14] rfl rfl (by kernel_rfl) (by kernel_rfl) (by kernel_rfl) (by kernel_rfl) (fun _ _ _ h => h) hS (Or.inl ⟨rfl, fun w1 hw1 => by obtain ⟨x3, x4⟩ := hw1; go_simp⟩) ?_
  simp only [Act.put, List.setIfInBounds_toArray, List.set_cons_zero, List.set_cons_succ]
  refine wpAnyK_takeTo 5 (some 18) (.int .i64 ((hand : Int) + 1)) [14] rfl rfl (by kernel_rfl) (by kernel_rfl) (by kernel_rfl) (by kernel_rfl) (fun _ _ _ h => h) hS (Or.inl ⟨rfl, fun w1 hw1 => by go_simp⟩) ?_
  simp only [Act.put, List.setIfInBounds_toArray, List.set_cons_zero, List.set_cons_succ]
  refine wpAnyK_takeTo 6 (some 19) (.pointer (some ⟨p, 0, none⟩)) [14] rfl rfl (by kernel_rfl) (by kernel_rfl) (by kernel_rfl) (by kernel_rfl) (fun _ _ _ h => h) hS (Or.inl ⟨rfl, fun w1 hw1 => by go_simp⟩) ?_
  simp only [Act.put, List.setIfInBounds_toArray, List.set_cons_zero, List.set_cons_succ]
  refine wpAnyK_takeTo 7 (some 20) (.pointer (some ⟨p, 0, none⟩)) [14] rfl rfl (by kernel_rfl) (by kernel_rfl) (by kernel_rfl) (by kernel_rfl) (fun _ _ _ h => h) hS (Or.inl ⟨rfl, fun w1 hw1 => by go_simp⟩) ?_
  simp only [Act.put, List.setIfInBounds_toArray, List.set_cons_zero, List.set_cons_succ]
  refine wpAnyK_takeTo 8 (some 21) (.pointer (some ⟨p, 3, none⟩)) [14] rfl rfl (by kernel_rfl) (by kernel_rfl) (by kernel_rfl) (by kernel_rfl) (fun _ _ _ h => h) hS (Or.inl ⟨rfl, fun w1 hw1 => by go_simp⟩) ?_
  simp only [Act.put, List.setIfInBounds_toArray, List.set_cons_zero, List.set_cons_succ]
  refine wpAnyK_takeTo 9 (some 22) (.slice (some ⟨gf, 0, none⟩) n c) [14] rfl rfl (by kernel_rfl) (by kernel_rfl) (by kernel_rfl) (by kernel_rfl) (fun _ _ _ h => h) hS (Or.inl ⟨rfl, fun w1 hw1 => by obtain ⟨x3, x4⟩ := hw1; go_simp⟩) ?_
  simp only [Act.put, List.setIfInBounds_toArray, List.set_cons_zero, List.set_cons_succ]
  refine wpAnyK_takeTo 10 (some 23) (.int .i64 (n : Int)) [14] rfl rfl (by kernel_rfl) (by kernel_rfl) (by kernel_rfl) (by kernel_rfl) (fun _ _ _ h => h) hS (Or.inl ⟨rfl, fun w1 hw1 => by go_simp⟩) ?_
  simp only [Act.put, List.setIfInBounds_toArray, List.set_cons_zero, List.set_cons_succ]
  refine wpAnyK_takeTo 11 (some 24) (.int .i64 (((hand : Int) + 1) % (n : Int))) [14] rfl rfl (by kernel_rfl) (by kernel_rfl) (by kernel_rfl) (by kernel_rfl) (fun _ _ _ h => h) hS (Or.inl ⟨rfl, fun w1 hw1 => by rw [← hrem]; go_simp; omega⟩) ?_
  simp only [Act.put, List.setIfInBounds_toArray, List.set_cons_zero, List.set_cons_succ]
  refine wpAnyK_takeTo 12 (some 25) (.pointer (some ⟨p, 0, none⟩)) [13, 14] rfl rfl (by kernel_rfl) (by kernel_rfl) (by kernel_rfl) (by kernel_rfl) (fun _ _ _ h => h) hS (Or.inl ⟨rfl, fun w1 hw1 => by go_simp⟩) ?_
  simp only [Act.put, List.setIfInBounds_toArray, List.set_cons_zero, List.set_cons_succ]
  refine wpAnyK_takeTo 13 (some 26) (.pointer (some ⟨p, 4, none⟩)) [14] rfl rfl (by kernel_rfl) (by kernel_rfl) (by kernel_rfl) (by kernel_rfl) (fun _ _ _ h => h) hS (Or.inl ⟨rfl, fun w1 hw1 => by go_simp⟩) ?_
  simp only [Act.put, List.setIfInBounds_toArray, List.set_cons_zero, List.set_cons_succ]
  have F2 : Fr W1 W1.drew (fun _ => False) := Fr.drew W1 _
  have hP2 := hP1.fr F2 (fun h => h)
  generalize W1.drew = W2 at *
  have z4 := hP2.z 4
  have y4 := hP2.c4
  refine wpAnyK_one (i := 14) (by kernel_rfl) rfl rfl ?_
  go_simp
  first | refine ⟨fun h => by cases h, ?_⟩ | skip
  refine wpAnyK_done (by kernel_rfl) ?_ _
  have HP3 := hide (hP2.set4 (.int .i64 (((hand : Int) + 1) % (n : Int))))
  have F3 := Fr.setCell W2 ⟨p, 4, none⟩ (.int .i64 (((hand : Int) + 1) % (n : Int)))
  generalize W2.setCell ⟨p, 4, none⟩ (.int .i64 (((hand : Int) + 1) % (n : Int))) = W3 at *
  clear hS y4 z4 hP2 hP1
  go_wp2
  go_ret
  refine ⟨rfl, ?_, ((F1.trans F2).trans F3).mono (by intro k _ h1; rcases h1 with (h1 | h1) | h1; exact h1.elim; exact h1.elim; exact h1)⟩
  have := HP3.out
  rw [show ((hand : Int) + 1) % (n : Int) = (((hand + 1) % n : Nat) : Int) by rw [Int.natCast_emod]; rfl] at this
  exact this
end Go.Proofs.Ytpjelmlbikmddaa

/- A pool reads a page. -/
namespace Go.Proofs.Ytpjelmlbikmddaa
open Go.RowKit
set_option maxRecDepth 100000
set_option linter.unusedVariables false

theorem alloc70b (w : World) : (Instr.alloc 70 true (.tuple #[])).run Try.prog w = .ok (.pointer (some ⟨w.heap.size, 0, none⟩)) (w.alloc (.cells (enc blank).toArray 70)) := by
  kernel_rfl
theorem wpList_alloc70b {w : World} {ops : Array Oper} {rest : List Oper} {o : Oper} {a : Act} {Q : Exit → Act → World → Prop} (hgd : o.guard = none) (ho : o.op = .alloc 70)
    (h : ∀ W1, Hid (W1 = w.alloc (.cells (enc blank).toArray 70)) → wpList Try.prog ops Q rest (a.put o.dst (.pointer (some ⟨w.heap.size, 0, none⟩))) W1) : wpList Try.prog ops Q (o :: rest) a w :=
  wpList_plain hgd fun _ hK => by
    unfold Oper.wp execOp
    simp only [ho, Sem.run_bind, alloc70b, Result.andThen_ok]
    exact hK _ _ (h _ rfl)

set_option maxHeartbeats 2000000 in
theorem bread_any {w : World} {b gs cs : Nat} {Cs : Array Value} {pv : Value} {S : List (List UInt8)} {L : List (Nat × List UInt8)} (h : DiskIs w b gs cs Cs pv S L) (hb : L.length ≤ 268435456)
    (p first i : Nat) (h0 : w.cell? ⟨p, 0, none⟩ = some (.pointer (some ⟨b, 0, none⟩))) (h1 : w.cell? ⟨p, 1, none⟩ = some (.int .i64 (first : Int))) (hfc : first + i < S.length) (hS4 : S.length ≤ 4096) :
    Calls Try.prog 31 #[.pointer (some ⟨p, 0, none⟩), .int .i64 (i : Int)] w fun e w' => e = .returned (.agg (enc (latestOf S L (first + i))).toArray) ∧ Fr w w' (fun _ => False) := by
  have HD := hide h
  have hRl := h.latest_length (first + i) hfc
  obtain ⟨R, hR⟩ : ∃ R, R = latestOf S L (first + i) := ⟨_, rfl⟩
  rw [← hR] at hRl ⊢
  have wk : IntKind.i64.wrap ((first : Int) + (i : Int)) = (first : Int) + (i : Int) := by rw [IntKind.wrap_i64]; omega
  have hpl : p < w.heap.size := World.block_lt_of_cell? w _ h0
  have hSx : ∀ V, Fr w V (fun _ => False) → V.cell? ⟨p, 0, none⟩ = some (.pointer (some ⟨b, 0, none⟩)) ∧ V.cell? ⟨p, 1, none⟩ = some (.int .i64 (first : Int)) := fun V hV => by
    have hbk := hV.block p hpl (fun h => h)
    exact ⟨by rw [World.cell?_of_block (w := w) hbk]; exact h0, by rw [World.cell?_of_block (w := w) hbk]; exact h1⟩
  clear h h0 h1
  go_enter Try.func31, Try.ntmps31
  go_wp2_with (refine wpList_alloc70b rfl rfl ?_; intro W1 HW1; have FA : Fr w W1 (fun _ => False) := (by rw [HW1.out]; exact Fr.alloc _ _ _); have hg1 := latest_block HW1.out; have hs1 : W1.heap.size = w.heap.size + 1 := (by rw [HW1.out]; simp))
  have FD : Fr w W1.drew (fun _ => False) := (FA.trans (Fr.drew W1 (fun _ => False))).mono (by simp)
  have hS := hSx _ FD
  go_wp2_with fail
  refine wp_region_K (fun _ => true) (fun V => V.cell? ⟨p, 0, none⟩ = some (.pointer (some ⟨b, 0, none⟩)) ∧ V.cell? ⟨p, 1, none⟩ = some (.int .i64 (first : Int))) (by kernel_rfl) ?_
  refine wpAnyK_takeTo 0 (some 8) (.pointer (some ⟨p, 0, none⟩)) [] rfl rfl (by kernel_rfl) (by kernel_rfl) (by kernel_rfl) (by kernel_rfl) (fun _ _ _ h => h) hS (Or.inl ⟨rfl, fun w1 hw1 => by go_simp⟩) ?_
  simp only [Act.put, List.setIfInBounds_toArray, List.set_cons_zero, List.set_cons_succ]
  refine wpAnyK_takeTo 1 (some 9) (.pointer (some ⟨p, 0, none⟩)) [] rfl rfl (by kernel_rfl) (by kernel_rfl) (by kernel_rfl) (by kernel_rfl) (fun _ _ _ h => h) hS (Or.inl ⟨rfl, fun w1 hw1 => by go_simp⟩) ?_
  simp only [Act.put, List.setIfInBounds_toArray, List.set_cons_zero, List.set_cons_succ]
  refine wpAnyK_takeTo 2 (some 10) (.pointer (some ⟨p, 0, none⟩)) [] rfl rfl (by kernel_rfl) (by kernel_rfl) (by kernel_rfl) (by kernel_rfl) (fun _ _ _ h => h) hS (Or.inl ⟨rfl, fun w1 hw1 => by go_simp⟩) ?_
  simp only [Act.put, List.setIfInBounds_toArray, List.set_cons_zero, List.set_cons_succ]
  refine wpAnyK_takeTo 3 (some 11) (.pointer (some ⟨b, 0, none⟩)) [] rfl rfl (by kernel_rfl) (by kernel_rfl) (by kernel_rfl) (by kernel_rfl) (fun _ _ _ h => h) hS (Or.inl ⟨rfl, fun w1 hw1 => by obtain ⟨x0, x1⟩ := hw1; go_simp⟩) ?_
  simp only [Act.put, List.setIfInBounds_toArray, List.set_cons_zero, List.set_cons_succ]
  refine wpAnyK_takeTo 4 (some 12) (.pointer (some ⟨p, 0, none⟩)) [] rfl rfl (by kernel_rfl) (by kernel_rfl) (by kernel_rfl) (by kernel_rfl) (fun _ _ _ h => h) hS (Or.inl ⟨rfl, fun w1 hw1 => by go_simp⟩) ?_
  simp only [Act.put, List.setIfInBounds_toArray, List.set_cons_zero, List.set_cons_succ]
  refine wpAnyK_takeTo 5 (some 13) (.pointer (some ⟨p, 0, none⟩)) [] rfl rfl (by kernel_rfl) (by kernel_rfl) (by kernel_rfl) (by kernel_rfl) (fun _ _ _ h => h) hS (Or.inl ⟨rfl, fun w1 hw1 => by go_simp⟩) ?_
  simp only [Act.put, List.setIfInBounds_toArray, List.set_cons_zero, List.set_cons_succ]
  refine wpAnyK_takeTo 6 (some 14) (.pointer (some ⟨p, 1, none⟩)) [] rfl rfl (by kernel_rfl) (by kernel_rfl) (by kernel_rfl) (by kernel_rfl) (fun _ _ _ h => h) hS (Or.inl ⟨rfl, fun w1 hw1 => by go_simp⟩) ?_
  simp only [Act.put, List.setIfInBounds_toArray, List.set_cons_zero, List.set_cons_succ]
  refine wpAnyK_takeTo 7 (some 15) (.int .i64 (first : Int)) [] rfl rfl (by kernel_rfl) (by kernel_rfl) (by kernel_rfl) (by kernel_rfl) (fun _ _ _ h => h) hS (Or.inl ⟨rfl, fun w1 hw1 => by obtain ⟨x0, x1⟩ := hw1; go_simp⟩) ?_
  simp only [Act.put, List.setIfInBounds_toArray, List.set_cons_zero, List.set_cons_succ]
  refine wpAnyK_takeTo 8 (some 16) (.int .i64 (i : Int)) [] rfl rfl (by kernel_rfl) (by kernel_rfl) (by kernel_rfl) (by kernel_rfl) (fun _ _ _ h => h) hS (Or.inl ⟨rfl, fun w1 hw1 => by go_simp⟩) ?_
  simp only [Act.put, List.setIfInBounds_toArray, List.set_cons_zero, List.set_cons_succ]
  refine wpAnyK_takeTo 9 (some 17) (.int .i64 ((first : Int) + (i : Int))) [] rfl rfl (by kernel_rfl) (by kernel_rfl) (by kernel_rfl) (by kernel_rfl) (fun _ _ _ h => h) hS (Or.inl ⟨rfl, fun w1 hw1 => by go_simp; first | done | simp only [wk]⟩) ?_
  simp only [Act.put, List.setIfInBounds_toArray, List.set_cons_zero, List.set_cons_succ]
  refine wpAnyK_one (i := 10) (by kernel_rfl) rfl rfl ?_
  refine wp_call_to (some 18) rfl 21 #[.pointer (some ⟨b, 0, none⟩), .int .i64 ((first : Int) + (i : Int))] (by go_simp) (read_any (HD.out.kept FD) _ (first + i) (by omega) (by omega) hb) ?_
  rintro e V1 ⟨rfl, hblk, hsz1, q1⟩
  have G1 : Fr w V1 (fun _ => False) := (FD.trans q1).mono (by simp)
  have hS := hSx V1 G1
  refine ⟨_, rfl, fun _ => hS, ?_⟩
  simp only [Act.put, List.setIfInBounds_toArray, List.set_cons_zero, List.set_cons_succ]
  refine wpAnyK_takeTo 11 (some 7) (.tuple #[.slice (some ⟨W1.drew.heap.size + 1, 0, none⟩) 256 256, .int .i64 0]) [] rfl rfl (by kernel_rfl) (by kernel_rfl) (by kernel_rfl) (by kernel_rfl) (fun _ _ _ h => h) hS (Or.inl ⟨rfl, fun w1 hw1 => by go_simp⟩) ?_
  simp only [Act.put, List.setIfInBounds_toArray, List.set_cons_zero, List.set_cons_succ]
  refine wpAnyK_takeTo 12 (some 19) (.slice (some ⟨W1.drew.heap.size + 1, 0, none⟩) 256 256) [] rfl rfl (by kernel_rfl) (by kernel_rfl) (by kernel_rfl) (by kernel_rfl) (fun _ _ _ h => h) hS (Or.inl ⟨rfl, fun w1 hw1 => by go_simp⟩) ?_
  simp only [Act.put, List.setIfInBounds_toArray, List.set_cons_zero, List.set_cons_succ]
  refine wpAnyK_takeTo 13 (some 20) (.int .i64 0) [] rfl rfl (by kernel_rfl) (by kernel_rfl) (by kernel_rfl) (by kernel_rfl) (fun _ _ _ h => h) hS (Or.inl ⟨rfl, fun w1 hw1 => by go_simp⟩) ?_
  simp only [Act.put, List.setIfInBounds_toArray, List.set_cons_zero, List.set_cons_succ]
  refine wpAnyK_takeTo 14 (some 5) (.slice (some ⟨W1.drew.heap.size + 1, 0, none⟩) 256 256) [] rfl rfl (by kernel_rfl) (by kernel_rfl) (by kernel_rfl) (by kernel_rfl) (fun _ _ _ h => h) hS (Or.inl ⟨rfl, fun w1 hw1 => by go_simp⟩) ?_
  simp only [Act.put, List.setIfInBounds_toArray, List.set_cons_zero, List.set_cons_succ]
  refine wpAnyK_takeTo 15 (some 6) (.int .i64 0) [] rfl rfl (by kernel_rfl) (by kernel_rfl) (by kernel_rfl) (by kernel_rfl) (fun _ _ _ h => h) hS (Or.inl ⟨rfl, fun w1 hw1 => by go_simp⟩) ?_
  simp only [Act.put, List.setIfInBounds_toArray, List.set_cons_zero, List.set_cons_succ]
  refine wpAnyK_done (by kernel_rfl) ?_ _
  rw [← hR] at hblk
  have hsd : W1.drew.heap.size = w.heap.size + 1 := hs1
  rw [hsd] at hblk ⊢
  have hr : V1.rangeAt (w.heap.size + 1 + 1) 0 (enc R) := fun j v hv => by
    rw [cell_of_row _ _ _ _ _ _ hblk]; simpa using hv
  have hgv : V1.heap[w.heap.size]? = some (.cells (enc blank).toArray 70 (0, 0)) := by
    rw [q1.block w.heap.size (by rw [hsd]; omega) (fun h => h)]; exact hg1
  have ra := fun w1 => run_arrayAt (P := Try.prog) (w := w1) 70 5 256 (some ⟨w.heap.size + 1 + 1, 0, none⟩) 256 256 Try.underlying70 (Nat.le_refl _)
  have HR := hide hr
  have HG := hide hgv
  have HG1 := hide G1
  have he : (enc R).length = 256 := by rw [length_enc, hRl]
  have HI := hide (by rw [he]; exact info70b : (Try.prog.info? 70).map (·.size) = some (enc R).length)
  have HI2 := hide (by rw [List.size_toArray, he]; exact info70b : (Try.prog.info? 70).map (·.size) = some (enc R).toArray.size)
  have HL2 := hide (by simp only [List.size_toArray, length_enc, length_blank, hRl] : (enc blank).toArray.size = (enc R).toArray.size)
  clear hS hSx hr hgv hblk hsz1 q1 G1 FD FA hg1 hR
  go_wp2_with (first | (refine wpList_load_mid rfl 70 (.tmp 22) rfl (w.heap.size + 1 + 1) 0 rfl (enc R) (.array 256 5) HR.out Try.underlying70 rfl HI.out ?_) | (refine wpList_store_row rfl 70 (.tmp 4) (.tmp 23) rfl w.heap.size (enc R).toArray rfl rfl 70 _ HG.out HI2.out HL2.out (all_oneCell_toArray (enc_oneCell _)) ?_))
  refine bodyPost_ret (results_cell_row Try.results31 _ _ w.heap.size 70 (enc R).toArray (0, 0) (.array 256 5) rfl (setRow_heap _ _ _ _ _ _ HG.out) Try.underlying70 rfl HI2.out) rfl ⟨rfl, ?_⟩
  refine (HG1.out.trans (Fr.setRow V1 w.heap.size _)).mono ?_
  rintro k hk (h2 | h2)
  · exact h2
  · omega
end Go.Proofs.Ytpjelmlbikmddaa
