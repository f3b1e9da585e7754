/- A catalog in memory; where a table stands. -/
import Derived.Test.YtdeopneififnnaaM
namespace Go.Proofs.Ytdeopneififnnaa
open Go.RowKit
set_option maxRecDepth 100000
set_option linter.unusedVariables false
set_option linter.unusedSimpArgs false

def Tb.cells (t : Tb) : List Value := [.int .i64 t.id, .string t.name, .slice t.ca t.cn t.cc, .slice t.ka t.kn t.kc, .bool t.ix]
/-- Tables as cells. -/
def encT (L : List Tb) : List Value := L.flatMap Tb.cells
theorem encT_length (L : List Tb) : (encT L).length = L.length * 5 := by
  induction L with
  | nil => rfl
  | cons c C ih =>
    have e : encT (c :: C) = c.cells ++ encT C := rfl
    rw [e, List.length_append, ih, List.length_cons, show c.cells.length = 5 from rfl]; omega
theorem encT_append (L M : List Tb) : encT (L ++ M) = encT L ++ encT M := by unfold encT; rw [List.flatMap_append]
theorem encT_get (L : List Tb) : ∀ (i : Nat) (x : Tb), L[i]? = some x → ∀ (j : Nat) (u : Value), x.cells[j]? = some u → (encT L)[i * 5 + j]? = some u := by
  induction L with
  | nil => intro i x h; simp at h
  | cons c C ih =>
    intro i x h j u hu
    have e : encT (c :: C) = c.cells ++ encT C := rfl
    have hj : j < 5 := by have := (List.getElem?_eq_some_iff.1 hu).1; exact this
    cases i with
    | zero =>
      simp at h; subst h
      rw [e, List.getElem?_append_left (by rw [show c.cells.length = 5 from rfl]; omega), Nat.zero_mul, Nat.zero_add]
      exact hu
    | succ i =>
      rw [e, List.getElem?_append_right (by rw [show c.cells.length = 5 from rfl]; omega), show (i + 1) * 5 + j - c.cells.length = i * 5 + j by rw [show c.cells.length = 5 from rfl]; omega]
      exact ih i x (by simpa using h) j u hu
/-- A table's five cells from a place on. -/
structure TbAt (w : World) (g o : Nat) (t : Tb) : Prop where
  c0 : w.cell? ⟨g, o, none⟩ = some (.int .i64 t.id)
  c1 : w.cell? ⟨g, o + 1, none⟩ = some (.string t.name)
  c2 : w.cell? ⟨g, o + 2, none⟩ = some (.slice t.ca t.cn t.cc)
  c3 : w.cell? ⟨g, o + 3, none⟩ = some (.slice t.ka t.kn t.kc)
  c4 : w.cell? ⟨g, o + 4, none⟩ = some (.bool t.ix)
theorem TbAt.fr {w w' : World} {X : Nat → Prop} {g o : Nat} {t : Tb} (h : TbAt w g o t) (hf : Fr w w' X) (hx : ¬ X g) : TbAt w' g o t := ⟨hf.cell hx h.c0, hf.cell hx h.c1, hf.cell hx h.c2, hf.cell hx h.c3, hf.cell hx h.c4⟩
theorem rows_at {w : World} {v : Value} {L : List Tb} (h : w.ownsRow 0 30 5 v L.length (encT L)) : ∃ a c, v = .slice a L.length c ∧ ∀ (i : Nat) (x : Tb), L[i]? = some x → ∃ g, a = some ⟨g, 0, none⟩ ∧ TbAt w g (i * 5) x := by
  obtain ⟨a, c, rfl⟩ := shape_n h
  refine ⟨a, c, rfl, fun i x hi => ?_⟩
  obtain ⟨g, rfl, e0⟩ := row_cell h (encT_get L i x hi 0 _ rfl)
  obtain ⟨g1, h1, e1⟩ := row_cell h (encT_get L i x hi 1 _ rfl)
  obtain ⟨g2, h2, e2⟩ := row_cell h (encT_get L i x hi 2 _ rfl)
  obtain ⟨g3, h3, e3⟩ := row_cell h (encT_get L i x hi 3 _ rfl)
  obtain ⟨g4, h4, e4⟩ := row_cell h (encT_get L i x hi 4 _ rfl)
  cases h1; cases h2; cases h3; cases h4
  exact ⟨g, rfl, e0, e1, e2, e3, e4⟩
/-- A catalog: its box, its row of tables, all that it has in blocks of X. -/
structure Cat (X : Nat → Prop) (w : World) (gc : Nat) (v : Value) (L : List Tb) : Prop where
  box : w.heap[gc]? = some (.cells #[v] 69 (0, 0))
  row : w.ownsRow 0 30 5 v L.length (encT L)
  xg : X gc
  xr : ∀ k, v.ownBlock = some k → X k ∧ k ≠ gc
  tabs : ∀ t ∈ L, TabIn (fun g => X g ∧ g ≠ gc ∧ v.ownBlock ≠ some g) w t
theorem Cat.fr {X Y : Nat → Prop} {w w' : World} {gc : Nat} {v : Value} {L : List Tb} (h : Cat X w gc v L) (hf : Fr w w' Y) (hx : ∀ k, X k → ¬ Y k) : Cat X w' gc v L :=
  ⟨by rw [hf.block gc (Array.getElem?_eq_some_iff.1 h.box).1 (hx _ h.xg)]; exact h.box, ownsRow_fr h.row hf (fun k hk => hx k (h.xr k hk).1), h.xg, h.xr, fun t ht => (h.tabs t ht).fr hf (fun k hk => hx k hk.1)⟩
theorem TabIn.mono {P Q : Nat → Prop} {w : World} {t : Tb} (h : TabIn P w t) (hq : ∀ k, P k → Q k) : TabIn Q w t :=
  ⟨fun i x hi => by obtain ⟨g, off, e1, e2, e3⟩ := h.cols i x hi; exact ⟨g, off, e1, hq _ e2, e3⟩, h.cn, h.cb, h.cs.imp (fun h => h) (fun ⟨g, off, e1, e2, e3⟩ => ⟨g, off, e1, hq _ e2, e3⟩), fun i x hi => by obtain ⟨g, off, e1, e2, e3⟩ := h.keys i x hi; exact ⟨g, off, e1, hq _ e2, e3⟩, h.kn, h.kb, h.ks.imp (fun h => h) (fun ⟨g, off, e1, e2, e3⟩ => ⟨g, off, e1, hq _ e2, e3⟩), h.id⟩
theorem Cat.mono {X Y : Nat → Prop} {w : World} {gc : Nat} {v : Value} {L : List Tb} (h : Cat X w gc v L) (hx : ∀ k, X k → Y k) : Cat Y w gc v L :=
  ⟨h.box, h.row, hx _ h.xg, fun k hk => ⟨hx _ (h.xr k hk).1, (h.xr k hk).2⟩, fun t ht => (h.tabs t ht).mono (fun k hk => ⟨hx _ hk.1, hk.2⟩)⟩
theorem Cat.cell {X : Nat → Prop} {w : World} {gc : Nat} {v : Value} {L : List Tb} (h : Cat X w gc v L) : w.cell? ⟨gc, 0, none⟩ = some v := (cell_of_row _ _ _ _ _ _ h.box).trans rfl
/-- The first table of a name, or -1. -/
def PlaceT (s : ByteArray) (L : List Tb) (r : Int) : Prop := (∃ (i : Nat) (x : Tb), L[i]? = some x ∧ x.name = s ∧ (∀ (j : Nat) (y : Tb), j < i → L[j]? = some y → y.name ≠ s) ∧ r = i) ∨ ((∀ x ∈ L, x.name ≠ s) ∧ r = -1)
theorem eqTab_any (t : Tb) (gn : Nat) (s : ByteArray) (w : World) (hs : w.cell? ⟨gn, 0, none⟩ = some (.string s)) : Calls Try.prog 49 #[t.agg, .pointer (some ⟨gn, 0, none⟩)] w fun e w' => ((t.name = s ∧ e = .returned (.bool true)) ∨ (t.name ≠ s ∧ e = .returned (.bool false))) ∧ Fr w w' (fun _ => False) := by
  obtain ⟨w1, hw1⟩ : ∃ w1, w1 = w.alloc (.cells #[.int .i64 t.id, .string t.name, .slice t.ca t.cn t.cc, .slice t.ka t.kn t.kc, .bool t.ix] 30) := ⟨_, rfl⟩
  have b1 : BoxT w1 w.heap.size t := by rw [hw1]; exact heap_alloc_new w _
  have hf : Fr w w1 (fun _ => False) := by rw [hw1]; exact Fr.alloc w _ _
  obtain ⟨x0, x1, x2, x3, x4⟩ := b1.cells
  have c1 := hf.cell (fun h => h) hs
  have HF := hide hf
  have HW := hide hw1
  clear b1 hw1 hf hs
  unfold Tb.agg
  by_cases he : t.name = s
  · have heb : (t.name.toList == s.toList) = true := by simp [he]
    have HE := hide he
    clear he
    go_enter Try.func49, Try.ntmps49
    go_wp2_with (rw [← HW.out]; clear HW)
    go_ret
    exact ⟨.inl ⟨HE.out, rfl⟩, HF.out⟩
  · have heb : (t.name.toList == s.toList) = false := (Go.Lib.bytes_beq_false_iff t.name s).2 he
    have hnl : ¬ (t.name.toList = s.toList) := by simpa using heb
    have HE := hide he
    clear he
    go_enter Try.func49, Try.ntmps49
    go_wp2_with (rw [← HW.out]; clear HW)
    go_ret
    exact ⟨.inr ⟨HE.out, rfl⟩, HF.out⟩
set_option maxHeartbeats 4000000 in
theorem indexT_any {w : World} (a : Option Addr) (n c : Nat) (L : List Tb) (hL : ∀ (i : Nat) (x : Tb), L[i]? = some x → ∃ g, a = some ⟨g, 0, none⟩ ∧ TbAt w g (i * 5) x) (hn : L.length = n) (hb : n ≤ 1048576) (gn : Nat) (s : ByteArray) (hs : w.cell? ⟨gn, 0, none⟩ = some (.string s)) : Calls Try.prog 48 #[.slice a n c, .func (.func 49) #[] #[.pointer (some ⟨gn, 0, none⟩)]] w fun e w' => ∃ r, e = .returned (.int .i64 r) ∧ PlaceT s L r ∧ Fr w w' (fun _ => False) := by
  have HC := hide hL
  have HN := hide hn
  have HS := hide hs
  clear hL hn hs
  go_enter Try.func48, Try.ntmps48
  go_wp2_with fail
  go_loopw [8] (fun ix wr => ∃ j : Nat, j ≤ n ∧ ix = .int .i64 (j : Int) ∧ (∀ (k : Nat) (y : Tb), k < j → L[k]? = some y → y.name ≠ s) ∧ Fr w wr (fun _ => False)) (fun ix _ => n - (intOf ix).toNat)
  case atStart => exact ⟨0, Nat.zero_le _, rfl, fun k y hk => by omega, Fr.refl _ _⟩
  case round =>
    rename World => W
    obtain ⟨j, hj, rfl, hall, hf⟩ := hrel
    have HAL := hide hall
    have HF := hide hf
    clear hall hf
    rcases Nat.lt_or_ge j n with hlt | hge
    · obtain ⟨x, hx⟩ : ∃ x, L[j]? = some x := ⟨_, List.getElem?_eq_getElem (by rw [HN.out]; exact hlt)⟩
      obtain ⟨g, ha, ht⟩ := HC.out j x hx
      obtain ⟨e0, e1, e2, e3, e4⟩ := ht.fr HF.out (fun h => h)
      subst ha
      have HX := hide hx
      have HE := hide (eqTab_any x gn s W (HF.out.cell (fun h => h) HS.out))
      unfold Tb.agg at HE
      clear hx ht
      go_wp2_with fail
      refine HE.out.mono ?_
      rintro e V ⟨⟨he, rfl⟩ | ⟨he, rfl⟩, fV⟩
      · have HEQ := hide he
        have HV := hide (HF.out.two fV)
        clear he fV HE
        go_wp2
        go_ret
        exact ⟨_, rfl, .inl ⟨j, x, HX.out, HEQ.out, HAL.out, rfl⟩, HV.out⟩
      · have HEQ := hide he
        have HV := hide (HF.out.two fV)
        clear he fV HE
        go_wp2
        go_roundw
        case rel => exact ⟨j + 1, by omega, by go_num, fun k z hk hz => by
          rcases Nat.lt_or_ge k j with h | h
          · exact HAL.out k z h hz
          · have : k = j := by omega
            subst this
            rw [HX.out] at hz
            cases hz
            exact HEQ.out, HV.out⟩
        case measure => simp [intOf]; omega
    · have e1 : n = j := by omega
      subst e1
      have HNO : Hid (∀ x ∈ L, x.name ≠ s) := hide (fun x hx => by
        obtain ⟨k, hk, hk2⟩ := List.getElem_of_mem hx
        exact HAL.out k x (by rw [HN.out] at hk; exact hk) (by rw [List.getElem?_eq_getElem hk, hk2]))
      go_wp2
      go_ret
      exact ⟨_, rfl, .inr ⟨HNO.out, rfl⟩, HF.out⟩
set_option maxHeartbeats 4000000 in
theorem place_any {X : Nat → Prop} {w : World} {gc : Nat} {v : Value} {L : List Tb} (h : Cat X w gc v L) (hb : L.length ≤ 1048576) (s : ByteArray) : Calls Try.prog 29 #[.pointer (some ⟨gc, 0, none⟩), .string s] w fun e w' => ∃ r, e = .returned (.int .i64 r) ∧ PlaceT s L r ∧ Fr w w' (fun _ => False) := by
  obtain ⟨w1, hw1⟩ : ∃ w1, w1 = w.alloc (.cells #[.string s] 9) := ⟨_, rfl⟩
  have f1 : Fr w w1 (fun _ => False) := by rw [hw1]; exact Fr.alloc w _ _
  have k0 : w1.cell? ⟨w.heap.size, 0, none⟩ = some (.string s) := by rw [hw1]; exact (cell_of_row _ _ _ _ _ _ (heap_alloc_new w _)).trans rfl
  have h1 := h.fr f1 (fun _ _ h => h)
  obtain ⟨a, c, rfl, hr⟩ := rows_at h1.row
  have c0 := h1.cell
  have HE := hide (indexT_any a L.length c L hr rfl hb w.heap.size s k0)
  obtain ⟨n, hn⟩ : ∃ n, n = L.length := ⟨_, rfl⟩
  rw [← hn] at HE c0
  have HF := hide f1
  have HW := hide hw1
  clear h h1 hr f1 hw1 hn k0
  go_enter Try.func29, Try.ntmps29
  go_wp2_with (rw [← HW.out]; clear HW)
  refine HE.out.mono ?_
  rintro e V ⟨r, rfl, hr, fV⟩
  have HR := hide hr
  have HV := hide (HF.out.two fV)
  clear hr fV HE
  go_wp2
  go_ret
  exact ⟨r, rfl, HR.out, HV.out⟩
end Go.Proofs.Ytdeopneififnnaa
