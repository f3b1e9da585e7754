/- Facts, steps, edges: how they stand in memory; their sorts. -/
import Derived.Test.YtlapifncplbcnaaGreatSo
namespace Go.Proofs.YtlapifncplbcnaaGreat
open Go.RowKit Go.Sort Go.Shelf
set_option maxRecDepth 100000
set_option linter.unusedVariables false
set_option linter.unusedSimpArgs false

/-- A fact: its row lies somewhere. -/
structure Ft where
  p : Option Addr
  c : Nat
  row : List Val
  lo : Int
  hi : Int
/-- A step. -/
structure St where
  p : Option Addr
  c : Nat
  row : List Val
  lo : Int
  hi : Int
  n : Int
/-- An edge. -/
structure Ed where
  t : Int
  of : Int
  b : Int
def Ft.rv (x : Ft) : Value := .slice x.p x.row.length x.c
def St.rv (x : St) : Value := .slice x.p x.row.length x.c
theorem info_of {ty : TypeId} {z : Value} {k b : Nat} (h0 : (Tryz.prog.info? ty).isSome = true) (h1 : (Tryz.prog.info? ty).bind (·.zero) = some z) (h2 : (Tryz.prog.info? ty).map (·.size) = some k) (h3 : (Tryz.prog.info? ty).map (·.bytes) = some b) :
    ∃ i, Tryz.prog.info? ty = some i ∧ i.zero = some z ∧ i.size = k ∧ i.bytes = b := by
  obtain ⟨i, hi⟩ := Option.isSome_iff_exists.1 h0
  rw [hi] at h1 h2 h3
  exact ⟨i, hi, h1, Option.some.inj h2, Option.some.inj h3⟩
def elF : El Ft where
  sl := 22
  ty := 59
  k := 3
  bys := 40
  z := .agg #[.slice none 0 0, .int .i64 0, .int .i64 0]
  enc x := [x.rv, .int .i64 x.lo, .int .i64 x.hi]
  len _ := rfl
  one x v hv := by simp at hv; rcases hv with rfl | rfl | rfl <;> rfl
  pos := by omega
  small := by omega
  und := Tryz.underlying22
  info := info_of (by kernel_rfl) (by kernel_rfl) (by kernel_rfl) (by kernel_rfl)
  zs := rfl
def elS : El St where
  sl := 73
  ty := 79
  k := 4
  bys := 48
  z := .agg #[.int .i64 0, .int .i64 0, .slice none 0 0, .int .i64 0]
  enc x := [.int .i64 x.lo, .int .i64 x.hi, x.rv, .int .i64 x.n]
  len _ := rfl
  one x v hv := by simp at hv; rcases hv with rfl | rfl | rfl | rfl <;> rfl
  pos := by omega
  small := by omega
  und := Tryz.underlying73
  info := info_of (by kernel_rfl) (by kernel_rfl) (by kernel_rfl) (by kernel_rfl)
  zs := rfl
def elE : El Ed where
  sl := 121
  ty := 124
  k := 3
  bys := 24
  z := .agg #[.int .i64 0, .int .i64 0, .int .i64 0]
  enc x := [.int .i64 x.t, .int .i64 x.of, .int .i64 x.b]
  len _ := rfl
  one x v hv := by simp at hv; rcases hv with rfl | rfl | rfl <;> rfl
  pos := by omega
  small := by omega
  und := Tryz.underlying121
  info := info_of (by kernel_rfl) (by kernel_rfl) (by kernel_rfl) (by kernel_rfl)
  zs := rfl
def elI : El Int where
  sl := 69
  ty := 2
  k := 1
  bys := 8
  z := .int .i64 0
  enc x := [.int .i64 x]
  len _ := rfl
  one x v hv := by simp at hv; subst hv; rfl
  pos := by omega
  small := by omega
  und := Tryz.underlying69
  info := info_of (by kernel_rfl) (by kernel_rfl) (by kernel_rfl) (by kernel_rfl)
  zs := rfl
/-- A value's cells. -/
def elV : El Val where
  sl := 45
  ty := 49
  k := 3
  bys := 32
  z := .agg #[.int .i64 0, .int .i64 0, .string ⟨#[]⟩]
  enc x := [.int .i64 x.kind, .int .i64 x.num, .string (strOf x.text)]
  len _ := rfl
  one x v hv := by simp at hv; rcases hv with rfl | rfl | rfl <;> rfl
  pos := by omega
  small := by omega
  und := Tryz.underlying45
  info := info_of (by kernel_rfl) (by kernel_rfl) (by kernel_rfl) (by kernel_rfl)
  zs := rfl
/-- A row of values that lies somewhere. -/
structure Rw where
  p : Option Addr
  c : Nat
  row : List Val
def Rw.rv (x : Rw) : Value := .slice x.p x.row.length x.c
def elR : El Rw where
  sl := 42
  ty := 45
  k := 1
  bys := 24
  z := .slice none 0 0
  enc x := [x.rv]
  len _ := rfl
  one x v hv := by simp at hv; subst hv; rfl
  pos := by omega
  small := by omega
  und := Tryz.underlying42
  info := info_of (by kernel_rfl) (by kernel_rfl) (by kernel_rfl) (by kernel_rfl)
  zs := rfl
theorem row_vals {w : World} {a : Option Addr} {L : List Val} (h : Row elV w a L) : Vals w a L := by
  rcases h with h | ⟨g, off, rfl, hc⟩
  · exact .inl h
  · refine .inr ⟨g, off, rfl, fun j v hv => ?_⟩
    have hR : Row elV w (some ⟨g, off, none⟩) L := .inr ⟨g, off, rfl, hc⟩
    exact ⟨hR.at hv (i := 0) rfl, hR.at hv (i := 1) rfl, hR.at hv (i := 2) rfl⟩
theorem vals_row {w : World} {a : Option Addr} {L : List Val} (h : Vals w a L) : Row elV w a L := by
  rcases h with h | ⟨g, off, rfl, hc⟩
  · exact .inl h
  · refine .inr ⟨g, off, rfl, fun j u hu => ?_⟩
    have hj : j < L.length * 3 := by have := (List.getElem?_eq_some_iff.1 hu).1; rw [elV.length_encs] at this; exact this
    obtain ⟨p, hp⟩ : ∃ p, L[j / 3]? = some p := ⟨_, List.getElem?_eq_getElem (by omega)⟩
    have e := elV.encs_get L (j / 3) p hp (j % 3) (Nat.mod_lt _ (by decide))
    rw [show j / 3 * elV.k + j % 3 = j by show j / 3 * 3 + j % 3 = j; omega, hu] at e
    obtain ⟨h0, h1, h2⟩ := hc (j / 3) p hp
    have h3 : j % 3 = 0 ∨ j % 3 = 1 ∨ j % 3 = 2 := by omega
    rcases h3 with h3 | h3 | h3
    · rw [h3] at e
      rw [show off + j = off + j / 3 * 3 by omega, h0]
      exact e.symm
    · rw [h3] at e
      rw [show off + j = off + j / 3 * 3 + 1 by omega, h1]
      exact e.symm
    · rw [h3] at e
      rw [show off + j = off + j / 3 * 3 + 2 by omega, h2]
      exact e.symm
/-- A row may be read: it lies within blocks that P names. -/
structure Rok (w : World) (P : Nat → Prop) (p : Option Addr) (c : Nat) (row : List Val) : Prop where
  vals : Vals w p row
  nil : p = none → c = 0
  cap : row.length ≤ c
  len : row.length ≤ 1099511627776
  blk : ∀ g off, p = some ⟨g, off, none⟩ → row ≠ [] → P g
theorem Vals.lt {w : World} {g off : Nat} {L : List Val} (h : Vals w (some ⟨g, off, none⟩) L) (hne : L ≠ []) : g < w.heap.size := by
  rcases h with h | ⟨g', off', e, hc⟩
  · exact absurd h hne
  · injection e with e
    injection e with e1 e2
    subst e1 e2
    obtain ⟨x, hx⟩ : ∃ x, L[0]? = some x := ⟨_, List.getElem?_eq_getElem (List.length_pos_iff.2 hne)⟩
    exact World.block_lt_of_cell? w _ (hc 0 x hx).1
theorem Rok.fr {w w' : World} {P X : Nat → Prop} {p : Option Addr} {c : Nat} {row : List Val} (h : Rok w P p c row) (hf : Fr w w' X) (hx : ∀ k, k < w.heap.size → P k → ¬ X k) : Rok w' P p c row := by
  refine ⟨?_, h.nil, h.cap, h.len, h.blk⟩
  by_cases hr : row = []
  · exact .inl hr
  · exact h.vals.fr hf (fun g off e hlt => hx g hlt (h.blk g off e hr))
theorem Rok.mono {w : World} {P Q : Nat → Prop} {p : Option Addr} {c : Nat} {row : List Val} (h : Rok w P p c row) (hpq : ∀ k, k < w.heap.size → P k → Q k) : Rok w Q p c row :=
  ⟨h.vals, h.nil, h.cap, h.len, fun g off e hr => by subst e; exact hpq _ (h.vals.lt hr) (h.blk g off rfl hr)⟩
/-- codec.Compare at two rows that may be read. -/
theorem cmp_rok {w : World} {P Q : Nat → Prop} {p q : Option Addr} {c d : Nat} {a b : List Val} (h : Rok w P p c a) (k : Rok w Q q d b) :
    Calls Tryz.prog 63 #[.slice p a.length c, .slice q b.length d] w fun e w' => e = .returned (.int .i64 (cmpL a b)) ∧ Gr w w' :=
  codecCompare_any p q c d a b w h.vals k.vals (by have := h.len; omega) (by have := k.len; omega)
/-- A block of four cells. -/
def Four (w : World) (g : Nat) (p q r s : Value) : Prop := w.cell? ⟨g, 0, none⟩ = some p ∧ w.cell? ⟨g, 1, none⟩ = some q ∧ w.cell? ⟨g, 2, none⟩ = some r ∧ w.cell? ⟨g, 3, none⟩ = some s ∧ ∀ j, w.frozen? ⟨g, j, none⟩ = false
theorem four_of {w : World} {g : Nat} {p q r s : Value} {t : TypeId} (h : w.heap[g]? = some (.cells #[p, q, r, s] t (0, 0))) : Four w g p q r s :=
  ⟨by rw [cell_of_row _ _ _ _ _ _ h]; rfl, by rw [cell_of_row _ _ _ _ _ _ h]; rfl, by rw [cell_of_row _ _ _ _ _ _ h]; rfl, by rw [cell_of_row _ _ _ _ _ _ h]; rfl, fun j => by simp [World.frozen?, h]⟩
set_option maxHeartbeats 2000000 in
/-- The comparison of steps. -/
theorem stepCmp {w : World} {P : Nat → Prop} {x y : St} (hx : Rok w P x.p x.c x.row) (hy : Rok w P y.p y.c y.row) :
    Calls Tryz.prog 79 (#[.agg (elS.enc x).toArray, .agg (elS.enc y).toArray] ++ #[]) w fun e w' => e = .returned (.int .i64 (cmpL x.row y.row)) ∧ Gr w w' := by
  have HX := hide hx
  have HY := hide hy
  clear hx hy
  have HC : Hid (∀ W, Fr w W (fun _ => False) → Calls Tryz.prog 63 #[.slice x.p x.row.length x.c, .slice y.p y.row.length y.c] W fun e w' => e = .returned (.int .i64 (cmpL x.row y.row)) ∧ Gr W w') :=
    hide (fun W hf => cmp_rok (HX.out.fr hf (fun _ _ _ h => h)) (HY.out.fr hf (fun _ _ _ h => h)))
  show Calls Tryz.prog 79 #[.agg #[.int .i64 x.lo, .int .i64 x.hi, x.rv, .int .i64 x.n], .agg #[.int .i64 y.lo, .int .i64 y.hi, y.rv, .int .i64 y.n]] w _
  unfold St.rv
  have G2 := hide (gr_two (w := w) (o1 := .cells #[.int .i64 x.lo, .int .i64 x.hi, .slice x.p x.row.length x.c, .int .i64 x.n] 79) (o2 := .cells #[.int .i64 y.lo, .int .i64 y.hi, .slice y.p y.row.length y.c, .int .i64 y.n] 79))
  go_enter Tryz.func79, Tryz.ntmps79
  go_wp2_with fail
  refine (HC.out _ G2.out.fr).mono ?_
  rintro e w' ⟨rfl, hg⟩
  have HG := hide (G2.out.trans hg)
  clear hg
  go_wp2
  go_ret
  exact ⟨rfl, HG.out⟩
set_option maxHeartbeats 2000000 in
/-- The comparison of edges. -/
theorem edgeCmp (w : World) (x y : Ed) :
    Calls Tryz.prog 123 (#[.agg (elE.enc x).toArray, .agg (elE.enc y).toArray] ++ #[]) w fun e w' => e = .returned (.int .i64 (cmpI x.t y.t)) ∧ Gr w w' := by
  show Calls Tryz.prog 123 #[.agg #[.int .i64 x.t, .int .i64 x.of, .int .i64 x.b], .agg #[.int .i64 y.t, .int .i64 y.of, .int .i64 y.b]] w _
  have HC := hide (cmpInt64_any x.t y.t)
  have G2 := hide (gr_two (w := w) (o1 := .cells #[.int .i64 x.t, .int .i64 x.of, .int .i64 x.b] 124) (o2 := .cells #[.int .i64 y.t, .int .i64 y.of, .int .i64 y.b] 124))
  go_enter Tryz.func123, Tryz.ntmps123
  go_wp2_with (go_at_call 83; refine (HC.out _).mono ?_; rintro e w' ⟨rfl, rfl⟩)
  go_ret
  exact ⟨rfl, G2.out⟩
theorem enters_step : ∀ args w, (callFunc 79 args).run Tryz.prog w = .ok (.enter 79 args) w := enters_of Tryz.func79 (by kernel_rfl) rfl
theorem enters_edge : ∀ args w, (callFunc 123 args).run Tryz.prog w = .ok (.enter 123 args) w := enters_of Tryz.func123 (by kernel_rfl) rfl
/-- Steps sorted by their rows. -/
theorem sortS_any (v : Value) (S : List St) (w : World) (P : Nat → Prop) (hv : Own elS w v S) (hl : S.length ≤ 2199023255552) (hr : ∀ x ∈ S, Rok w P x.p x.c x.row) (hP : ∀ k, v.ownBlock = some k → ¬ P k) :
    Calls Tryz.prog 78 #[v, .func (.func 79) #[] #[]] w fun e w' => e = .returned (.tuple #[]) ∧ ∃ T : List St, T.Perm S ∧ T.Pairwise (fun x y => ¬ cmpL y.row x.row < 0) ∧ Own elS w' v T ∧ Fr w w' (fun k => v.ownBlock = some k) :=
  sort_own elS Tryz.sortStep Tryz.isAgg79 Tryz.sizeOf79 (fun x y : St => cmpL x.row y.row) (good_vals.sub St.row) 79 #[] enters_step v S w hv hl (fun x => Rok w P x.p x.c x.row) hr
    (fun w1 hf x y hx hy => stepCmp (hx.fr hf (fun k _ h1 h2 => hP k h2 h1)) (hy.fr hf (fun k _ h1 h2 => hP k h2 h1)))
/-- Edges sorted by time. -/
theorem sortE_any (v : Value) (S : List Ed) (w : World) (hv : Own elE w v S) (hl : S.length ≤ 2199023255552) :
    Calls Tryz.prog 122 #[v, .func (.func 123) #[] #[]] w fun e w' => e = .returned (.tuple #[]) ∧ ∃ T : List Ed, T.Perm S ∧ T.Pairwise (fun x y => ¬ cmpI y.t x.t < 0) ∧ Own elE w' v T ∧ Fr w w' (fun k => v.ownBlock = some k) :=
  sort_own elE Tryz.sortEdge Tryz.isAgg124 Tryz.sizeOf124 (fun x y : Ed => cmpI x.t y.t) (good_int Ed.t) 123 #[] enters_edge v S w hv hl (fun _ => True) (fun _ _ => trivial)
    (fun w1 _ x y _ _ => edgeCmp w1 x y)
end Go.Proofs.YtlapifncplbcnaaGreat
