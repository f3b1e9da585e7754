/- Periods: Check, Right, Has, Overlap. -/
import Derived.Test.YtlapifncplbcnaaGreatB
set_option linter.unusedSimpArgs false
namespace Go.Proofs.YtlapifncplbcnaaGreat
open Go.RowKit
set_option linter.unusedVariables false

structure Per where
  lo : Int
  hi : Int
def Right (p : Per) : Prop := 0 ≤ p.lo ∧ p.lo < p.hi ∧ p.hi ≤ 1099511627776
def perV (p : Per) : Value := .agg #[.int .i64 p.lo, .int .i64 p.hi]
theorem up_two {w : World} {o1 o2 : Obj} : Fr w ((w.alloc o1).alloc o2) (fun _ => False) := ((Fr.alloc _ _ (fun _ => False)).trans (Fr.alloc _ _ (fun _ => False))).mono (by simp)
/-- A block of two cells. -/
def Two (w : World) (g : Nat) (p q : Value) : Prop := w.cell? ⟨g, 0, none⟩ = some p ∧ w.cell? ⟨g, 1, none⟩ = some q ∧ ∀ j, w.frozen? ⟨g, j, none⟩ = false
theorem two_of {w : World} {g : Nat} {p q : Value} {t : TypeId} (h : w.heap[g]? = some (.cells #[p, q] t (0, 0))) : Two w g p q :=
  ⟨by rw [cell_of_row _ _ _ _ _ _ h]; rfl, by rw [cell_of_row _ _ _ _ _ _ h]; rfl, fun j => by simp [World.frozen?, h]⟩
theorem Two.fr {w w' : World} {X : Nat → Prop} {g : Nat} {p q : Value} (h : Two w g p q) (hf : Fr w w' X) (hx : ¬ X g) : Two w' g p q := by
  have hb := hf.block g (World.block_lt_of_cell? w _ h.1) hx
  exact ⟨by rw [World.cell?_of_block (w := w) hb]; exact h.1, by rw [World.cell?_of_block (w := w) hb]; exact h.2.1, fun j => by rw [World.frozen?_of_block (w := w) hb]; exact h.2.2 j⟩
theorem Two.set0 {w : World} {g : Nat} {p q : Value} (h : Two w g p q) (v : Value) : Two (w.setCell ⟨g, 0, none⟩ v) g v q :=
  ⟨World.cell?_setCell_same _ _ _ h.1, by rw [World.cell?_setCell_other _ _ _ _ (by simp)]; exact h.2.1, fun j => by rw [World.frozen?_setCell]; exact h.2.2 j⟩
theorem Two.set1 {w : World} {g : Nat} {p q : Value} (h : Two w g p q) (v : Value) : Two (w.setCell ⟨g, 1, none⟩ v) g p v :=
  ⟨by rw [World.cell?_setCell_other _ _ _ _ (by simp)]; exact h.1, World.cell?_setCell_same _ _ _ h.2.1, fun j => by rw [World.frozen?_setCell]; exact h.2.2 j⟩
theorem Two.range {w : World} {g : Nat} {p q : Value} (h : Two w g p q) : w.rangeAt g 0 [p, q] := by
  intro j v hv
  match j, hv with
  | 0, hv => simp only [List.getElem?_cons_zero, Option.some.injEq] at hv; subst hv; exact h.1
  | 1, hv => simp only [List.getElem?_cons_succ, List.getElem?_cons_zero, Option.some.injEq] at hv; subst hv; exact h.2.1
  | j + 2, hv => simp at hv

/-- A period's cells. -/
def cellsP (p : Per) : List Value := [.int .i64 p.lo, .int .i64 p.hi]
/-- Is it a period? -/
def rightB (p : Per) : Bool := decide (0 ≤ p.lo ∧ p.lo < p.hi ∧ p.hi ≤ 1099511627776)
theorem rightB_iff (p : Per) : rightB p = true ↔ Right p := by simp [rightB, Right]
def codeP (p : Per) : Int := if rightB p = true then 0 else 40
theorem codeP_ok (p : Per) (h : rightB p = true) : codeP p = 0 := by simp [codeP, h]
theorem codeP_no (p : Per) (h : rightB p = false) : codeP p = 40 := by simp [codeP, h]

set_option maxHeartbeats 1000000 in
theorem check_any (p : Per) (w : World) : Calls Tryz.prog 74 #[perV p] w fun e w' => e = .returned (.int .i64 (codeP p)) ∧ Fr w w' (fun _ => False) := by
  obtain ⟨lo, hi⟩ := p
  have HF := hide (Fr.alloc w (.cells #[.int .i64 lo, .int .i64 hi] 24) (fun _ => False))
  unfold perV
  by_cases h0 : lo < 0
  · rw [codeP_no _ (by simp [rightB]; omega)]
    go_enter Tryz.func74, Tryz.ntmps74
    go_wp2
    go_ret
    exact ⟨rfl, HF.out⟩
  · by_cases h1 : hi ≤ lo
    · rw [codeP_no _ (by simp [rightB]; omega)]
      go_enter Tryz.func74, Tryz.ntmps74
      go_wp2
      go_ret
      exact ⟨rfl, HF.out⟩
    · by_cases h2 : 1099511627776 < hi
      · rw [codeP_no _ (by simp [rightB]; omega)]
        go_enter Tryz.func74, Tryz.ntmps74
        go_wp2
        go_ret
        exact ⟨rfl, HF.out⟩
      · rw [codeP_ok _ (by simp [rightB]; omega)]
        go_enter Tryz.func74, Tryz.ntmps74
        go_wp2
        go_ret
        exact ⟨rfl, HF.out⟩

def hasB (p : Per) (t : Int) : Bool := decide (p.lo ≤ t ∧ t < p.hi)
set_option maxHeartbeats 1000000 in
theorem has_any (p : Per) (t : Int) (w : World) : Calls Tryz.prog 61 #[perV p, .int .i64 t] w fun e w' => e = .returned (.bool (hasB p t)) ∧ Fr w w' (fun _ => False) := by
  obtain ⟨lo, hi⟩ := p
  have HF := hide (Fr.alloc w (.cells #[.int .i64 lo, .int .i64 hi] 24) (fun _ => False))
  unfold perV
  by_cases h0 : lo ≤ t
  · have h2 : hasB ⟨lo, hi⟩ t = decide (t < hi) := by simp [hasB, h0]
    rw [h2]
    go_enter Tryz.func61, Tryz.ntmps61
    go_wp2
    go_ret
    exact ⟨rfl, HF.out⟩
  · have h2 : hasB ⟨lo, hi⟩ t = false := by simp [hasB]; omega
    rw [h2]
    go_enter Tryz.func61, Tryz.ntmps61
    go_wp2
    go_ret
    exact ⟨rfl, HF.out⟩
theorem info23 : (Tryz.prog.info? 24).map (·.size) = some 2 := by kernel_rfl
theorem results_per {fn : Func} {p q : Tmp} (h : fn.results = #[.cell p 24, .tmp q]) (tmps : Array Value) (w : World) (g : Nat) {x y : Value} (ht : Two w g x y) (hp : tmps.getD p undef = .pointer (some ⟨g, 0, none⟩)) :
    (results fn tmps).run Tryz.prog w = .ok (.tuple #[.agg #[x, y], tmps.getD q undef]) w := by
  have hp' : tmps[p]?.getD undef = .pointer (some ⟨g, 0, none⟩) := by simpa using hp
  simp [results, h, hp', asAddr, run_loadVar_mid (P := Tryz.prog) w g 0 24 [x, y] _ ht.range Tryz.underlying24 rfl info23]

def bothP (a b : Per) : Per := ⟨max a.lo b.lo, min a.hi b.hi⟩
def overB (a b : Per) : Bool := rightB a && rightB b && rightB (bothP a b)
def overP (a b : Per) : Per := if overB a b = true then bothP a b else ⟨0, 0⟩

/-- Three boxes. -/
structure Bx (V : World) (g : Nat) (a b : Per) : Prop where
  ta : Two V g (.int .i64 a.lo) (.int .i64 a.hi)
  tb : Two V (g + 1) (.int .i64 b.lo) (.int .i64 b.hi)
  tr : Two V (g + 1 + 1) (.int .i64 0) (.int .i64 0)
theorem Bx.fr {V V' : World} {g : Nat} {a b : Per} (h : Bx V g a b) (hf : Fr V V' (fun _ => False)) : Bx V' g a b := ⟨h.ta.fr hf (fun h => h), h.tb.fr hf (fun h => h), h.tr.fr hf (fun h => h)⟩
def bx3 (w : World) (a b : Per) : World := ((w.alloc (.cells #[.int .i64 a.lo, .int .i64 a.hi] 24)).alloc (.cells #[.int .i64 b.lo, .int .i64 b.hi] 24)).alloc (.cells #[.int .i64 0, .int .i64 0] 24)
theorem bx3_fr (w : World) (a b : Per) : Fr w (bx3 w a b) (fun _ => False) := (up_two.trans (Fr.alloc _ _ (fun _ => False))).mono (by simp)
theorem bx3_bx (w : World) (a b : Per) : Bx (bx3 w a b) w.heap.size a b := by
  have h2 := (two_of (heap_alloc_new (w.alloc (.cells #[.int .i64 a.lo, .int .i64 a.hi] 24)) (.cells #[.int .i64 b.lo, .int .i64 b.hi] 24))).fr (Fr.alloc _ (.cells #[.int .i64 0, .int .i64 0] 24) (fun _ => False)) (fun h => h)
  have h3 := two_of (heap_alloc_new ((w.alloc (.cells #[.int .i64 a.lo, .int .i64 a.hi] 24)).alloc (.cells #[.int .i64 b.lo, .int .i64 b.hi] 24)) (.cells #[.int .i64 0, .int .i64 0] 24))
  simp only [World.size_alloc] at h2 h3
  exact ⟨(two_of (heap_alloc_new w _)).fr up_two (fun h => h), h2, h3⟩
theorem bx3_size (w : World) (a b : Per) : (bx3 w a b).heap.size = w.heap.size + 3 := by simp [bx3]
theorem res_fr {w W : World} {gb : Nat} (hf : Fr w W (fun _ => False)) (hb : w.heap.size ≤ gb) (x y : Value) : Fr w ((W.setCell ⟨gb + 1 + 1, 0, none⟩ x).setCell ⟨gb + 1 + 1, 1, none⟩ y) (fun _ => False) :=
  ((hf.trans (Fr.setCell W ⟨gb + 1 + 1, 0, none⟩ x)).trans (Fr.setCell _ ⟨gb + 1 + 1, 1, none⟩ y)).mono (fun q hq h => by rcases h with (h | h) | h; exact h; all_goals (simp only [] at h; omega))

set_option maxRecDepth 100000 in
set_option maxHeartbeats 4000000 in
theorem overlap_any (a b : Per) (w : World) : Calls Tryz.prog 57 #[perV a, perV b] w fun e w' => e = .returned (.tuple #[perV (overP a b), .bool (overB a b)]) ∧ Fr w w' (fun _ => False) := by
  have HBX := hide (bx3_bx w a b)
  have HF0 := hide (bx3_fr w a b)
  have hsz := bx3_size w a b
  have hca := check_any a
  have hcb := check_any b
  unfold perV at hca hcb ⊢
  go_enter Tryz.func57, Tryz.ntmps57
  go_wp2_with fail
  change Calls Tryz.prog 74 _ (bx3 w a b) _
  obtain ⟨W0, hW0⟩ : ∃ W0, W0 = bx3 w a b := ⟨_, rfl⟩
  obtain ⟨gb, hgb⟩ : ∃ gb, gb = w.heap.size := ⟨_, rfl⟩
  rw [← hW0] at HBX HF0 hsz ⊢
  rw [← hgb] at HBX hsz ⊢
  have hbw : w.heap.size ≤ gb := by omega
  clear hW0 hgb
  refine (hca W0).mono ?_
  rintro e W1 ⟨rfl, f1⟩
  have HBX1 := hide (HBX.out.fr f1)
  have HF1 := hide ((HF0.out.trans f1).mono (Y := fun _ => False) (by simp))
  have hs1 := f1.size
  clear hca f1 HBX HF0
  by_cases ha : rightB a = true
  · rw [codeP_ok a ha]
    have b0 := HBX1.out.tb.1
    have b1 := HBX1.out.tb.2.1
    go_wp2_with fail
    refine (hcb W1).mono ?_
    rintro e W2 ⟨rfl, f2⟩
    have HBX2 := hide (HBX1.out.fr f2)
    have HF2 := hide ((HF1.out.trans f2).mono (Y := fun _ => False) (by simp))
    have hs2 := f2.size
    clear hcb f2 HBX1 HF1 b0 b1
    by_cases hb : rightB b = true
    · rw [codeP_ok b hb]
      have hcc := check_any (bothP a b)
      have a0 := HBX2.out.ta.1
      have a1 := HBX2.out.ta.2.1
      have b0 := HBX2.out.tb.1
      have b1 := HBX2.out.tb.2.1
      have hbp : ∃ M N, bothP a b = ⟨M, N⟩ ∧ (a.lo < b.lo → M = b.lo) ∧ (¬ a.lo < b.lo → M = a.lo) ∧ (a.hi ≤ b.hi → N = a.hi) ∧ (¬ a.hi ≤ b.hi → N = b.hi) := ⟨_, _, rfl, by omega, by omega, by omega, by omega⟩
      obtain ⟨M, N, hbp, m1, m2, n1, n2⟩ := hbp
      rw [hbp] at hcc
      by_cases hlo : a.lo < b.lo
      · have hM := m1 hlo
        rw [hM] at hcc hbp
        clear m1 m2 hM M
        by_cases hhi : a.hi ≤ b.hi
        · have hN := n1 hhi
          rw [hN] at hcc hbp
          clear n1 n2 hN N
          have HBP := hide hbp
          clear hbp
          have FA := Fr.alloc W2 (.cells #[.int .i64 (b.lo), .int .i64 (a.hi)] 24) (fun _ => False)
          have HBX3 := hide (HBX2.out.fr FA)
          have HT3 := hide (two_of (heap_alloc_new W2 (.cells #[.int .i64 (b.lo), .int .i64 (a.hi)] 24)))
          have HF3 := hide ((HF2.out.trans FA).mono (Y := fun _ => False) (by simp))
          unfold perV at hcc
          clear FA HBX2 HF2
          go_wp2_with fail
          generalize W2.alloc (.cells #[.int .i64 (b.lo), .int .i64 (a.hi)] 24) = W3 at *
          refine (hcc W3).mono ?_
          rintro e W4 ⟨rfl, f4⟩
          have HBX4 := hide (HBX3.out.fr f4)
          have HT4 := hide (HT3.out.fr f4 (fun h => h))
          have HF4 := hide ((HF3.out.trans f4).mono (Y := fun _ => False) (by simp))
          clear a0 a1 b0 b1 HBX3 HT3 HF3 f4 hcc
          have htr := HBX4.out.tr
          have r0 := htr.1
          have r1 := htr.2.1
          have z0 := htr.2.2 0
          have z1 := htr.2.2 1
          have t0 := HT4.out.1
          have t1 := HT4.out.2.1
          by_cases hc : rightB ⟨b.lo, a.hi⟩ = true
          · have ho : overB a b = true := by simp [overB, ha, hb, HBP.out, hc]
            have hp : overP a b = ⟨b.lo, a.hi⟩ := by simp [overP, ho, HBP.out]
            rw [show codeP ⟨b.lo, a.hi⟩ = 0 from codeP_ok _ hc]
            have HTR := hide ((htr.set0 (.int .i64 (b.lo))).set1 (.int .i64 (a.hi)))
            clear htr
            go_wp2
            exact bodyPost_ret (results_per Tryz.results57 _ _ (gb + 1 + 1) HTR.out rfl) rfl ⟨by rw [hp, ho]; rfl, res_fr HF4.out hbw _ _⟩
          · have hc' : rightB ⟨b.lo, a.hi⟩ = false := by simpa using hc
            have ho : overB a b = false := by simp [overB, HBP.out, hc']
            have hp : overP a b = ⟨0, 0⟩ := by simp [overP, ho]
            rw [show codeP ⟨b.lo, a.hi⟩ = 40 from codeP_no _ hc']
            have HTR := hide ((htr.set0 (.int .i64 0)).set1 (.int .i64 0))
            clear htr
            go_wp2
            exact bodyPost_ret (results_per Tryz.results57 _ _ (gb + 1 + 1) HTR.out rfl) rfl ⟨by rw [hp, ho]; rfl, res_fr HF4.out hbw _ _⟩
        · have hN := n2 hhi
          rw [hN] at hcc hbp
          clear n1 n2 hN N
          have HBP := hide hbp
          clear hbp
          have FA := Fr.alloc W2 (.cells #[.int .i64 (b.lo), .int .i64 (b.hi)] 24) (fun _ => False)
          have HBX3 := hide (HBX2.out.fr FA)
          have HT3 := hide (two_of (heap_alloc_new W2 (.cells #[.int .i64 (b.lo), .int .i64 (b.hi)] 24)))
          have HF3 := hide ((HF2.out.trans FA).mono (Y := fun _ => False) (by simp))
          unfold perV at hcc
          clear FA HBX2 HF2
          go_wp2_with fail
          generalize W2.alloc (.cells #[.int .i64 (b.lo), .int .i64 (b.hi)] 24) = W3 at *
          refine (hcc W3).mono ?_
          rintro e W4 ⟨rfl, f4⟩
          have HBX4 := hide (HBX3.out.fr f4)
          have HT4 := hide (HT3.out.fr f4 (fun h => h))
          have HF4 := hide ((HF3.out.trans f4).mono (Y := fun _ => False) (by simp))
          clear a0 a1 b0 b1 HBX3 HT3 HF3 f4 hcc
          have htr := HBX4.out.tr
          have r0 := htr.1
          have r1 := htr.2.1
          have z0 := htr.2.2 0
          have z1 := htr.2.2 1
          have t0 := HT4.out.1
          have t1 := HT4.out.2.1
          by_cases hc : rightB ⟨b.lo, b.hi⟩ = true
          · have ho : overB a b = true := by simp [overB, ha, hb, HBP.out, hc]
            have hp : overP a b = ⟨b.lo, b.hi⟩ := by simp [overP, ho, HBP.out]
            rw [show codeP ⟨b.lo, b.hi⟩ = 0 from codeP_ok _ hc]
            have HTR := hide ((htr.set0 (.int .i64 (b.lo))).set1 (.int .i64 (b.hi)))
            clear htr
            go_wp2
            exact bodyPost_ret (results_per Tryz.results57 _ _ (gb + 1 + 1) HTR.out rfl) rfl ⟨by rw [hp, ho]; rfl, res_fr HF4.out hbw _ _⟩
          · have hc' : rightB ⟨b.lo, b.hi⟩ = false := by simpa using hc
            have ho : overB a b = false := by simp [overB, HBP.out, hc']
            have hp : overP a b = ⟨0, 0⟩ := by simp [overP, ho]
            rw [show codeP ⟨b.lo, b.hi⟩ = 40 from codeP_no _ hc']
            have HTR := hide ((htr.set0 (.int .i64 0)).set1 (.int .i64 0))
            clear htr
            go_wp2
            exact bodyPost_ret (results_per Tryz.results57 _ _ (gb + 1 + 1) HTR.out rfl) rfl ⟨by rw [hp, ho]; rfl, res_fr HF4.out hbw _ _⟩
      · have hM := m2 hlo
        rw [hM] at hcc hbp
        clear m1 m2 hM M
        by_cases hhi : a.hi ≤ b.hi
        · have hN := n1 hhi
          rw [hN] at hcc hbp
          clear n1 n2 hN N
          have HBP := hide hbp
          clear hbp
          have FA := Fr.alloc W2 (.cells #[.int .i64 (a.lo), .int .i64 (a.hi)] 24) (fun _ => False)
          have HBX3 := hide (HBX2.out.fr FA)
          have HT3 := hide (two_of (heap_alloc_new W2 (.cells #[.int .i64 (a.lo), .int .i64 (a.hi)] 24)))
          have HF3 := hide ((HF2.out.trans FA).mono (Y := fun _ => False) (by simp))
          unfold perV at hcc
          clear FA HBX2 HF2
          go_wp2_with fail
          generalize W2.alloc (.cells #[.int .i64 (a.lo), .int .i64 (a.hi)] 24) = W3 at *
          refine (hcc W3).mono ?_
          rintro e W4 ⟨rfl, f4⟩
          have HBX4 := hide (HBX3.out.fr f4)
          have HT4 := hide (HT3.out.fr f4 (fun h => h))
          have HF4 := hide ((HF3.out.trans f4).mono (Y := fun _ => False) (by simp))
          clear a0 a1 b0 b1 HBX3 HT3 HF3 f4 hcc
          have htr := HBX4.out.tr
          have r0 := htr.1
          have r1 := htr.2.1
          have z0 := htr.2.2 0
          have z1 := htr.2.2 1
          have t0 := HT4.out.1
          have t1 := HT4.out.2.1
          by_cases hc : rightB ⟨a.lo, a.hi⟩ = true
          · have ho : overB a b = true := by simp [overB, ha, hb, HBP.out, hc]
            have hp : overP a b = ⟨a.lo, a.hi⟩ := by simp [overP, ho, HBP.out]
            rw [show codeP ⟨a.lo, a.hi⟩ = 0 from codeP_ok _ hc]
            have HTR := hide ((htr.set0 (.int .i64 (a.lo))).set1 (.int .i64 (a.hi)))
            clear htr
            go_wp2
            exact bodyPost_ret (results_per Tryz.results57 _ _ (gb + 1 + 1) HTR.out rfl) rfl ⟨by rw [hp, ho]; rfl, res_fr HF4.out hbw _ _⟩
          · have hc' : rightB ⟨a.lo, a.hi⟩ = false := by simpa using hc
            have ho : overB a b = false := by simp [overB, HBP.out, hc']
            have hp : overP a b = ⟨0, 0⟩ := by simp [overP, ho]
            rw [show codeP ⟨a.lo, a.hi⟩ = 40 from codeP_no _ hc']
            have HTR := hide ((htr.set0 (.int .i64 0)).set1 (.int .i64 0))
            clear htr
            go_wp2
            exact bodyPost_ret (results_per Tryz.results57 _ _ (gb + 1 + 1) HTR.out rfl) rfl ⟨by rw [hp, ho]; rfl, res_fr HF4.out hbw _ _⟩
        · have hN := n2 hhi
          rw [hN] at hcc hbp
          clear n1 n2 hN N
          have HBP := hide hbp
          clear hbp
          have FA := Fr.alloc W2 (.cells #[.int .i64 (a.lo), .int .i64 (b.hi)] 24) (fun _ => False)
          have HBX3 := hide (HBX2.out.fr FA)
          have HT3 := hide (two_of (heap_alloc_new W2 (.cells #[.int .i64 (a.lo), .int .i64 (b.hi)] 24)))
          have HF3 := hide ((HF2.out.trans FA).mono (Y := fun _ => False) (by simp))
          unfold perV at hcc
          clear FA HBX2 HF2
          go_wp2_with fail
          generalize W2.alloc (.cells #[.int .i64 (a.lo), .int .i64 (b.hi)] 24) = W3 at *
          refine (hcc W3).mono ?_
          rintro e W4 ⟨rfl, f4⟩
          have HBX4 := hide (HBX3.out.fr f4)
          have HT4 := hide (HT3.out.fr f4 (fun h => h))
          have HF4 := hide ((HF3.out.trans f4).mono (Y := fun _ => False) (by simp))
          clear a0 a1 b0 b1 HBX3 HT3 HF3 f4 hcc
          have htr := HBX4.out.tr
          have r0 := htr.1
          have r1 := htr.2.1
          have z0 := htr.2.2 0
          have z1 := htr.2.2 1
          have t0 := HT4.out.1
          have t1 := HT4.out.2.1
          by_cases hc : rightB ⟨a.lo, b.hi⟩ = true
          · have ho : overB a b = true := by simp [overB, ha, hb, HBP.out, hc]
            have hp : overP a b = ⟨a.lo, b.hi⟩ := by simp [overP, ho, HBP.out]
            rw [show codeP ⟨a.lo, b.hi⟩ = 0 from codeP_ok _ hc]
            have HTR := hide ((htr.set0 (.int .i64 (a.lo))).set1 (.int .i64 (b.hi)))
            clear htr
            go_wp2
            exact bodyPost_ret (results_per Tryz.results57 _ _ (gb + 1 + 1) HTR.out rfl) rfl ⟨by rw [hp, ho]; rfl, res_fr HF4.out hbw _ _⟩
          · have hc' : rightB ⟨a.lo, b.hi⟩ = false := by simpa using hc
            have ho : overB a b = false := by simp [overB, HBP.out, hc']
            have hp : overP a b = ⟨0, 0⟩ := by simp [overP, ho]
            rw [show codeP ⟨a.lo, b.hi⟩ = 40 from codeP_no _ hc']
            have HTR := hide ((htr.set0 (.int .i64 0)).set1 (.int .i64 0))
            clear htr
            go_wp2
            exact bodyPost_ret (results_per Tryz.results57 _ _ (gb + 1 + 1) HTR.out rfl) rfl ⟨by rw [hp, ho]; rfl, res_fr HF4.out hbw _ _⟩
    · have hb' : rightB b = false := by simpa using hb
      have ho : overB a b = false := by simp [overB, hb']
      have hp : overP a b = ⟨0, 0⟩ := by simp [overP, ho]
      rw [codeP_no b hb']
      have htr := HBX2.out.tr
      have r0 := htr.1
      have r1 := htr.2.1
      have z0 := htr.2.2 0
      have z1 := htr.2.2 1
      have HTR := hide ((htr.set0 (.int .i64 0)).set1 (.int .i64 0))
      clear htr
      go_wp2
      exact bodyPost_ret (results_per Tryz.results57 _ _ (gb + 1 + 1) HTR.out rfl) rfl ⟨by rw [hp, ho]; rfl, res_fr HF2.out hbw _ _⟩
  · have ha' : rightB a = false := by simpa using ha
    have ho : overB a b = false := by simp [overB, ha']
    have hp : overP a b = ⟨0, 0⟩ := by simp [overP, ho]
    rw [codeP_no a ha']
    have htr := HBX1.out.tr
    have r0 := htr.1
    have r1 := htr.2.1
    have z0 := htr.2.2 0
    have z1 := htr.2.2 1
    have HTR := hide ((htr.set0 (.int .i64 0)).set1 (.int .i64 0))
    clear htr
    go_wp2
    exact bodyPost_ret (results_per Tryz.results57 _ _ (gb + 1 + 1) HTR.out rfl) rfl ⟨by rw [hp, ho]; rfl, res_fr HF1.out hbw _ _⟩
end Go.Proofs.YtlapifncplbcnaaGreat
