/- The walk of Overlap. -/
import Derived.Test.YtbdpdobaacbkkaaDoorUn
namespace Go.Proofs.YtbdpdobaacbkkaaDoor
open Go.RowKit
set_option linter.unusedVariables false

theorem info23 : (Tryd.prog.info? 23).map (·.size) = some 2 := by kernel_rfl
theorem results_per {fn : Func} {p q : Tmp} (h : fn.results = #[.cell p 23, .tmp q]) (tmps : Array Value) (w : World) (g : Nat) {x y : Value} (ht : Two w g x y) (hp : tmps.getD p undef = .pointer (some ⟨g, 0, none⟩)) :
    (results fn tmps).run Tryd.prog w = .ok (.tuple #[.agg #[x, y], tmps.getD q undef]) w := by
  have hp' : tmps[p]?.getD undef = .pointer (some ⟨g, 0, none⟩) := by simpa using hp
  simp [results, h, hp', asAddr, run_loadVar_mid (P := Tryd.prog) w g 0 23 [x, y] _ ht.range Tryd.underlying23 rfl info23]

def bothP (a b : Per) : Per := ⟨max a.lo b.lo, min a.hi b.hi⟩
def overB (a b : Per) : Bool := rightB a && rightB b && rightB (bothP a b)
def overP (a b : Per) : Per := if overB a b = true then bothP a b else ⟨0, 0⟩

/-- Three boxes. -/
structure Bx (V : World) (g : Nat) (a b : Per) : Prop where
  ta : Two V g (.int .i64 a.lo) (.int .i64 a.hi)
  tb : Two V (g + 1) (.int .i64 b.lo) (.int .i64 b.hi)
  tr : Two V (g + 1 + 1) (.int .i64 0) (.int .i64 0)
theorem Bx.fr {V V' : World} {g : Nat} {a b : Per} (h : Bx V g a b) (hf : Fr V V' (fun _ => False)) : Bx V' g a b := ⟨h.ta.fr hf (fun h => h), h.tb.fr hf (fun h => h), h.tr.fr hf (fun h => h)⟩
def bx3 (w : World) (a b : Per) : World := ((w.alloc (.cells #[.int .i64 a.lo, .int .i64 a.hi] 23)).alloc (.cells #[.int .i64 b.lo, .int .i64 b.hi] 23)).alloc (.cells #[.int .i64 0, .int .i64 0] 23)
theorem bx3_fr (w : World) (a b : Per) : Fr w (bx3 w a b) (fun _ => False) := (up_two.trans (Fr.alloc _ _ (fun _ => False))).mono (by simp)
theorem bx3_bx (w : World) (a b : Per) : Bx (bx3 w a b) w.heap.size a b := by
  have h2 := (two_of (heap_alloc_new (w.alloc (.cells #[.int .i64 a.lo, .int .i64 a.hi] 23)) (.cells #[.int .i64 b.lo, .int .i64 b.hi] 23))).fr (Fr.alloc _ (.cells #[.int .i64 0, .int .i64 0] 23) (fun _ => False)) (fun h => h)
  have h3 := two_of (heap_alloc_new ((w.alloc (.cells #[.int .i64 a.lo, .int .i64 a.hi] 23)).alloc (.cells #[.int .i64 b.lo, .int .i64 b.hi] 23)) (.cells #[.int .i64 0, .int .i64 0] 23))
  simp only [World.size_alloc] at h2 h3
  exact ⟨(two_of (heap_alloc_new w _)).fr up_two (fun h => h), h2, h3⟩
theorem bx3_size (w : World) (a b : Per) : (bx3 w a b).heap.size = w.heap.size + 3 := by simp [bx3]
theorem res_fr {w W : World} {gb : Nat} (hf : Fr w W (fun _ => False)) (hb : w.heap.size ≤ gb) (x y : Value) : Fr w ((W.setCell ⟨gb + 1 + 1, 0, none⟩ x).setCell ⟨gb + 1 + 1, 1, none⟩ y) (fun _ => False) :=
  ((hf.trans (Fr.setCell W ⟨gb + 1 + 1, 0, none⟩ x)).trans (Fr.setCell _ ⟨gb + 1 + 1, 1, none⟩ y)).mono (fun q hq h => by rcases h with (h | h) | h; exact h; all_goals (simp only [] at h; omega))

set_option maxRecDepth 100000 in
set_option maxHeartbeats 1000000 in
theorem overlap_any (a b : Per) (w : World) : Calls Tryd.prog 13 #[perV a, perV b] w fun e w' => e = .returned (.tuple #[perV (overP a b), .bool (overB a b)]) ∧ Fr w w' (fun _ => False) := by
  have HBX := hide (bx3_bx w a b)
  have HF0 := hide (bx3_fr w a b)
  have hsz := bx3_size w a b
  have hca := check_any a
  have hcb := check_any b
  unfold perV at hca hcb ⊢
  go_enter Tryd.func13, Tryd.ntmps13
  go_wp2_with fail
  change Calls Tryd.prog 9 _ (bx3 w a b) _
  obtain ⟨W0, hW0⟩ : ∃ W0, W0 = bx3 w a b := ⟨_, rfl⟩
  obtain ⟨gb, hgb⟩ : ∃ gb, gb = w.heap.size := ⟨_, rfl⟩
  rw [← hW0] at HBX HF0 hsz ⊢
  rw [← hgb] at HBX hsz ⊢
  have hbw : w.heap.size ≤ gb := by omega
  clear hW0 hgb
  refine (hca W0).mono ?_
  rintro e W1 ⟨rfl, f1⟩
  have HBX1 := hide (HBX.out.fr f1)
  have HF1 := hide ((HF0.out.trans f1).mono (Y := fun _ => False) (by simp))
  have hs1 := f1.size
  clear hca f1 HBX HF0
  by_cases ha : rightB a = true
  · rw [codeP_ok a ha]
    have b0 := HBX1.out.tb.1
    have b1 := HBX1.out.tb.2.1
    go_wp2_with fail
    refine (hcb W1).mono ?_
    rintro e W2 ⟨rfl, f2⟩
    have HBX2 := hide (HBX1.out.fr f2)
    have HF2 := hide ((HF1.out.trans f2).mono (Y := fun _ => False) (by simp))
    have hs2 := f2.size
    clear hcb f2 HBX1 HF1 b0 b1
    by_cases hb : rightB b = true
    · rw [codeP_ok b hb]
      have hcc := check_any (bothP a b)
      have a0 := HBX2.out.ta.1
      have a1 := HBX2.out.ta.2.1
      have b0 := HBX2.out.tb.1
      have b1 := HBX2.out.tb.2.1
      have FA := Fr.alloc W2 (.cells #[.int .i64 (max a.lo b.lo), .int .i64 (min a.hi b.hi)] 23) (fun _ => False)
      have HBX3 := hide (HBX2.out.fr FA)
      have HT3 := hide (two_of (heap_alloc_new W2 (.cells #[.int .i64 (max a.lo b.lo), .int .i64 (min a.hi b.hi)] 23)))
      have HF3 := hide ((HF2.out.trans FA).mono (Y := fun _ => False) (by simp))
      unfold perV bothP at hcc
      clear FA HBX2 HF2
      go_wp2_with fail
      generalize W2.alloc (.cells #[.int .i64 (max a.lo b.lo), .int .i64 (min a.hi b.hi)] 23) = W3 at *
      refine (hcc W3).mono ?_
      rintro e W4 ⟨rfl, f4⟩
      have HBX4 := hide (HBX3.out.fr f4)
      have HT4 := hide (HT3.out.fr f4 (fun h => h))
      have HF4 := hide ((HF3.out.trans f4).mono (Y := fun _ => False) (by simp))
      clear a0 a1 b0 b1 HBX3 HT3 HF3 f4 hcc
      have htr := HBX4.out.tr
      have r0 := htr.1
      have r1 := htr.2.1
      have z0 := htr.2.2 0
      have z1 := htr.2.2 1
      have t0 := HT4.out.1
      have t1 := HT4.out.2.1
      by_cases hc : rightB (bothP a b) = true
      · have ho : overB a b = true := by simp [overB, ha, hb, hc]
        have hp : overP a b = bothP a b := by simp [overP, ho]
        rw [show codeP ⟨max a.lo b.lo, min a.hi b.hi⟩ = 0 from codeP_ok _ hc]
        have HTR := hide ((htr.set0 (.int .i64 (max a.lo b.lo))).set1 (.int .i64 (min a.hi b.hi)))
        clear htr
        go_wp2
        exact bodyPost_ret (results_per Tryd.results13 _ _ (gb + 1 + 1) HTR.out rfl) rfl ⟨by rw [hp, ho]; rfl, res_fr HF4.out hbw _ _⟩
      · have hc' : rightB (bothP a b) = false := by simpa using hc
        have ho : overB a b = false := by simp [overB, hc']
        have hp : overP a b = ⟨0, 0⟩ := by simp [overP, ho]
        rw [show codeP ⟨max a.lo b.lo, min a.hi b.hi⟩ = 40 from codeP_no _ hc']
        have HTR := hide ((htr.set0 (.int .i64 0)).set1 (.int .i64 0))
        clear htr
        go_wp2
        exact bodyPost_ret (results_per Tryd.results13 _ _ (gb + 1 + 1) HTR.out rfl) rfl ⟨by rw [hp, ho]; rfl, res_fr HF4.out hbw _ _⟩
    · have hb' : rightB b = false := by simpa using hb
      have ho : overB a b = false := by simp [overB, hb']
      have hp : overP a b = ⟨0, 0⟩ := by simp [overP, ho]
      rw [codeP_no b hb']
      have htr := HBX2.out.tr
      have r0 := htr.1
      have r1 := htr.2.1
      have z0 := htr.2.2 0
      have z1 := htr.2.2 1
      have HTR := hide ((htr.set0 (.int .i64 0)).set1 (.int .i64 0))
      clear htr
      go_wp2
      exact bodyPost_ret (results_per Tryd.results13 _ _ (gb + 1 + 1) HTR.out rfl) rfl ⟨by rw [hp, ho]; rfl, res_fr HF2.out hbw _ _⟩
  · have ha' : rightB a = false := by simpa using ha
    have ho : overB a b = false := by simp [overB, ha']
    have hp : overP a b = ⟨0, 0⟩ := by simp [overP, ho]
    rw [codeP_no a ha']
    have htr := HBX1.out.tr
    have r0 := htr.1
    have r1 := htr.2.1
    have z0 := htr.2.2 0
    have z1 := htr.2.2 1
    have HTR := hide ((htr.set0 (.int .i64 0)).set1 (.int .i64 0))
    clear htr
    go_wp2
    exact bodyPost_ret (results_per Tryd.results13 _ _ (gb + 1 + 1) HTR.out rfl) rfl ⟨by rw [hp, ho]; rfl, res_fr HF1.out hbw _ _⟩
end Go.Proofs.YtbdpdobaacbkkaaDoor
