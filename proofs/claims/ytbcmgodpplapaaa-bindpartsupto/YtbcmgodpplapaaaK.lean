/- A name's value in a row; sums. -/
import Derived.Test.YtbcmgodpplapaaaJ
namespace Go.Proofs.Ytbcmgodpplapaaa
open Go.RowKit
set_option maxRecDepth 100000
set_option linter.unusedVariables false
set_option linter.unusedSimpArgs false

/-- A row of values. -/
def ValsIn (w : World) (a : Option Addr) (L : List Vl) : Prop := ∀ (i : Nat) (x : Vl), L[i]? = some x → ∃ g off, a = some ⟨g, off, none⟩ ∧ w.cell? ⟨g, off + i * 3, none⟩ = some (.int .i64 x.kind) ∧ w.cell? ⟨g, off + i * 3 + 1, none⟩ = some (.int .i64 x.num) ∧ w.cell? ⟨g, off + i * 3 + 2, none⟩ = some (.string x.text)
theorem ValsIn.fr {w w' : World} {a : Option Addr} {L : List Vl} (h : ValsIn w a L) (hf : Fr w w' (fun _ => False)) : ValsIn w' a L := by
  intro i x hx
  obtain ⟨g, off, hg, x0, x1, x2⟩ := h i x hx
  have hb := hf.block g (World.block_lt_of_cell? w _ x0) (fun h => h)
  have e : ∀ o, w'.cell? ⟨g, o, none⟩ = w.cell? ⟨g, o, none⟩ := fun o => World.cell?_of_block (w := w) hb
  exact ⟨g, off, hg, by rw [e]; exact x0, by rw [e]; exact x1, by rw [e]; exact x2⟩
def cellP (row : List Vl) (place kind : Int) : Except Int Vl :=
  if place < 0 then .error 161 else match row[place.toNat]? with
    | none => .error 161
    | some x => if x.kind = kind then .ok x else .error 161
/-- A value is answered, or it is given up. -/
def VlPost (o : Except Int Vl) (e : Ending) : Prop := match o with
  | .error c => e = .panicked [refused c]
  | .ok x => e = .returned x.v
abbrev tmV (op : ByteArray) (kind : Int) (val : Vl) (place : Int) (a : Option Addr) (n c : Nat) : Value := .agg #[.string op, .int .i64 kind, .int .i64 val.kind, .int .i64 val.num, .string val.text, .int .i64 place, .slice a n c]
set_option maxHeartbeats 4000000 in
theorem cell_any {w : World} (op : ByteArray) (kind : Int) (val : Vl) (place : Int) (ta : Option Addr) (tn tc : Nat) (ra : Option Addr) (rn rc : Nat) (row : List Vl) (hrow : ValsIn w ra row) (hrn : row.length = rn) (hrb : rn ≤ 4611686018427387904) :
    Calls Try.prog 39 #[tmV op kind val place ta tn tc, .slice ra rn rc] w fun e w' => VlPost (cellP row place kind) e ∧ Fr w w' (fun _ => False) := by
  have HRO := hide hrow
  have HRN := hide hrn
  obtain ⟨ob, hob⟩ : ∃ ob : Obj, ob = .cells #[.string op, .int .i64 kind, .int .i64 val.kind, .int .i64 val.num, .string val.text, .int .i64 place, .slice ta tn tc] 53 := ⟨_, rfl⟩
  obtain ⟨oc, hoc⟩ : ∃ oc : Obj, oc = .cells #[.int .i64 0, .int .i64 0, .string ⟨#[]⟩] 50 := ⟨_, rfl⟩
  have HF := hide ((Fr.alloc w ob (fun _ => False)).two (Fr.alloc (w.alloc ob) oc (fun _ => False)))
  have HT := hide ((sev_of (w := w.alloc ob) (g := w.heap.size) (by rw [hob]; exact heap_alloc_new _ _)).fr (Fr.alloc (w.alloc ob) oc (fun _ => False)) (fun h => h))
  have HV : Hid (Tri ((w.alloc ob).alloc oc) (w.heap.size + 1) (.int .i64 0) (.int .i64 0) (.string ⟨#[]⟩)) := hide (by have h := tri_of (w := (w.alloc ob).alloc oc) (g := (w.alloc ob).heap.size) (t := 50) (x0 := .int .i64 0) (x1 := .int .i64 0) (x2 := .string ⟨#[]⟩) (by rw [hoc]; exact heap_alloc_new _ _); rw [show (w.alloc ob).heap.size = w.heap.size + 1 by simp] at h; exact h)
  subst hob hoc
  clear hrow hrn
  go_enter Try.func39, Try.ntmps39
  go_wp2_with fail
  generalize (w.alloc (.cells #[.string op, .int .i64 kind, .int .i64 val.kind, .int .i64 val.num, .string val.text, .int .i64 place, .slice ta tn tc] 53)).alloc (.cells #[.int .i64 0, .int .i64 0, .string ⟨#[]⟩] 50) = W1 at *
  obtain ⟨tb, htb⟩ : ∃ tb, tb = w.heap.size := ⟨_, rfl⟩
  obtain ⟨vb, hvb⟩ : ∃ vb, vb = w.heap.size + 1 := ⟨_, rfl⟩
  rw [← htb] at HT
  rw [← hvb] at HV
  rw [← hvb, ← htb]
  have HVB := hide hvb
  clear htb hvb
  have c1 := HT.out.c1
  have c5 := HT.out.c5
  by_cases h0 : place < 0
  · have HC : Hid (cellP row place kind = .error 161) := hide (by unfold cellP; rw [if_pos h0])
    go_quiet (fail)
    go_wp2_with (go_at_call 34; refine (giveUp_any _ _).mono ?_; rintro e w' ⟨rfl, hw⟩; rw [hw]; clear hw)
    exact ⟨rfl, by rw [HC.out]; exact rfl, HF.out.two (Fr.drewN _ _ _)⟩
  · obtain ⟨p, hp⟩ : ∃ p : Nat, place = p := ⟨place.toNat, by omega⟩
    subst hp
    rcases Nat.lt_or_ge p rn with hlt | hge
    · obtain ⟨x, hx⟩ : ∃ x, row[p]? = some x := ⟨_, List.getElem?_eq_getElem (by rw [HRN.out]; exact hlt)⟩
      obtain ⟨g, off, hg, x0, x1, x2⟩ := (HRO.out.fr HF.out) p x hx
      rw [hg]
      by_cases hk : x.kind = kind
      · have HC : Hid (cellP row (p : Int) kind = .ok x) := hide (by unfold cellP; rw [if_neg h0, Int.toNat_natCast, hx]; simp [hk])
        subst hk
        clear hx hg
        go_quiet (fail)
        have HVd := hide (HV.out.fr (Fr.drewN W1 nq (fun _ => False)) (fun h => h))
        have HFd := hide (HF.out.two (Fr.drewN W1 nq (fun _ => False)))
        have HQ := hide (HVd.out.fill (.int .i64 x.kind) (.int .i64 x.num) (.string x.text))
        have HF9 := hide ((HFd.out.trans (fill3_fr (W1.drewN nq) vb (.int .i64 x.kind) (.int .i64 x.num) (.string x.text))).mono (Y := fun _ => False) (fun k hk h => by rcases h with h | h; exact h; (have h : k = vb := h; have := HVB.out; omega)))
        have y0 := HVd.out.c0
        have y1 := HVd.out.c1
        have y2 := HVd.out.c2
        have q0 := HVd.out.z 0
        have q1 := HVd.out.z 1
        have q2 := HVd.out.z 2
        go_wp2_with fail
        refine bodyPost_ret (results_vl Try.results39 _ _ vb HQ.out rfl) rfl ⟨?_, HF9.out⟩
        rw [HC.out]
        exact rfl
      · have HC : Hid (cellP row (p : Int) kind = .error 161) := hide (by unfold cellP; rw [if_neg h0, Int.toNat_natCast, hx]; simp [hk])
        have hk' : (x.kind == kind) = false := by simp [hk]
        have hk2 : (x.kind != kind) = true := by simp [hk]
        clear hx hg
        go_quiet (fail)
        go_wp2_with (go_at_call 34; refine (giveUp_any _ _).mono ?_; rintro e w' ⟨rfl, hw⟩; rw [hw]; clear hw)
        exact ⟨rfl, by rw [HC.out]; exact rfl, HF.out.two (Fr.drewN _ _ _)⟩
    · have HC : Hid (cellP row (p : Int) kind = .error 161) := hide (by unfold cellP; rw [if_neg h0, Int.toNat_natCast, List.getElem?_eq_none (by rw [HRN.out]; exact hge)])
      go_quiet (fail)
      go_wp2_with (go_at_call 34; refine (giveUp_any _ _).mono ?_; rintro e w' ⟨rfl, hw⟩; rw [hw]; clear hw)
      exact ⟨rfl, by rw [HC.out]; exact rfl, HF.out.two (Fr.drewN _ _ _)⟩
theorem fitting_yes (n : Int) (w : World) : Calls Try.prog 51 #[.int .i64 n, .bool true] w fun e w' => e = .returned (.int .i64 n) ∧ w' = w := by
  go_enter Try.func51, Try.ntmps51
  go_wp2
  go_ret
  exact ⟨rfl, rfl⟩
theorem fitting_no (n : Int) (w : World) : Calls Try.prog 51 #[.int .i64 n, .bool false] w fun e w' => e = .panicked [refused 171] ∧ w' = w := by
  go_enter Try.func51, Try.ntmps51
  go_wp2_with (go_at_call 34; refine (giveUp_any _ _).mono ?_; rintro e w' ⟨rfl, hw⟩; rw [hw]; clear hw)
  exact ⟨rfl, rfl, rfl⟩
def okS (a b : Int) : Bool := decide (0 ≤ bits BinOp.and IntKind.i64 (bits BinOp.xor IntKind.i64 a (wrap64 (a + b))) (bits BinOp.xor IntKind.i64 b (wrap64 (a + b))))
def sumP (a b : Int) : Option Int := if okS a b = true then some (wrap64 (a + b)) else none
theorem sum_any (a b : Int) (w : World) : Calls Try.prog 45 #[.int .i64 a, .int .i64 b] w fun e w' => NumPost (sumP a b) 171 e ∧ w' = w := by
  unfold sumP
  obtain ⟨q, hq⟩ : ∃ q, okS a b = q := ⟨_, rfl⟩
  have HQ := hide hq
  rw [hq]
  clear hq
  go_enter Try.func45, Try.ntmps45
  go_wp2_with fail
  rw [show decide (0 ≤ bits BinOp.and IntKind.i64 (bits BinOp.xor IntKind.i64 a (wrap64 (a + b))) (bits BinOp.xor IntKind.i64 b (wrap64 (a + b)))) = q from HQ.out]
  cases q
  · refine (fitting_no _ _).mono ?_
    rintro e w' ⟨rfl, hw⟩
    rw [hw]
    exact ⟨rfl, rfl, rfl⟩
  · refine (fitting_yes _ _).mono ?_
    rintro e w' ⟨rfl, hw⟩
    rw [hw]
    clear hw
    go_wp2
    go_ret
    exact ⟨rfl, rfl⟩
end Go.Proofs.Ytbcmgodpplapaaa
