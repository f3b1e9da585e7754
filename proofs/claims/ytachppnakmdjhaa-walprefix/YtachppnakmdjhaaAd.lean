/- The document's Add. -/
import Derived.Test.YtachppnakmdjhaaRs
namespace Go.Proofs.Ytachppnakmdjhaa
open Go.RowKit
set_option linter.unusedVariables false

theorem Five.set0 {w : World} {g : Nat} {x0 x1 x2 x3 x4 : Value} (h : Five w g x0 x1 x2 x3 x4) (v : Value) : Five (w.setCell ⟨g, 0, none⟩ v) g v x1 x2 x3 x4 :=
  ⟨World.cell?_setCell_same _ _ _ h.c0, by rw [World.cell?_setCell_other _ _ _ _ (by simp)]; exact h.c1, by rw [World.cell?_setCell_other _ _ _ _ (by simp)]; exact h.c2, by rw [World.cell?_setCell_other _ _ _ _ (by simp)]; exact h.c3, by rw [World.cell?_setCell_other _ _ _ _ (by simp)]; exact h.c4, fun j => by rw [World.frozen?_setCell]; exact h.z j⟩
theorem Five.set1 {w : World} {g : Nat} {x0 x1 x2 x3 x4 : Value} (h : Five w g x0 x1 x2 x3 x4) (v : Value) : Five (w.setCell ⟨g, 1, none⟩ v) g x0 v x2 x3 x4 :=
  ⟨by rw [World.cell?_setCell_other _ _ _ _ (by simp)]; exact h.c0, World.cell?_setCell_same _ _ _ h.c1, by rw [World.cell?_setCell_other _ _ _ _ (by simp)]; exact h.c2, by rw [World.cell?_setCell_other _ _ _ _ (by simp)]; exact h.c3, by rw [World.cell?_setCell_other _ _ _ _ (by simp)]; exact h.c4, fun j => by rw [World.frozen?_setCell]; exact h.z j⟩
theorem Five.set2 {w : World} {g : Nat} {x0 x1 x2 x3 x4 : Value} (h : Five w g x0 x1 x2 x3 x4) (v : Value) : Five (w.setCell ⟨g, 2, none⟩ v) g x0 x1 v x3 x4 :=
  ⟨by rw [World.cell?_setCell_other _ _ _ _ (by simp)]; exact h.c0, by rw [World.cell?_setCell_other _ _ _ _ (by simp)]; exact h.c1, World.cell?_setCell_same _ _ _ h.c2, by rw [World.cell?_setCell_other _ _ _ _ (by simp)]; exact h.c3, by rw [World.cell?_setCell_other _ _ _ _ (by simp)]; exact h.c4, fun j => by rw [World.frozen?_setCell]; exact h.z j⟩
theorem Five.set3 {w : World} {g : Nat} {x0 x1 x2 x3 x4 : Value} (h : Five w g x0 x1 x2 x3 x4) (v : Value) : Five (w.setCell ⟨g, 3, none⟩ v) g x0 x1 x2 v x4 :=
  ⟨by rw [World.cell?_setCell_other _ _ _ _ (by simp)]; exact h.c0, by rw [World.cell?_setCell_other _ _ _ _ (by simp)]; exact h.c1, by rw [World.cell?_setCell_other _ _ _ _ (by simp)]; exact h.c2, World.cell?_setCell_same _ _ _ h.c3, by rw [World.cell?_setCell_other _ _ _ _ (by simp)]; exact h.c4, fun j => by rw [World.frozen?_setCell]; exact h.z j⟩
theorem Five.set4 {w : World} {g : Nat} {x0 x1 x2 x3 x4 : Value} (h : Five w g x0 x1 x2 x3 x4) (v : Value) : Five (w.setCell ⟨g, 4, none⟩ v) g x0 x1 x2 x3 v :=
  ⟨by rw [World.cell?_setCell_other _ _ _ _ (by simp)]; exact h.c0, by rw [World.cell?_setCell_other _ _ _ _ (by simp)]; exact h.c1, by rw [World.cell?_setCell_other _ _ _ _ (by simp)]; exact h.c2, by rw [World.cell?_setCell_other _ _ _ _ (by simp)]; exact h.c3, World.cell?_setCell_same _ _ _ h.c4, fun j => by rw [World.frozen?_setCell]; exact h.z j⟩
theorem Five.store {w : World} {g : Nat} {x0 x1 x2 x3 x4 : Value} (h : Five w g x0 x1 x2 x3 x4) (v0 v1 v2 v3 v4 : Value) : Five (((((w.setCell ⟨g, 0, none⟩ v0).setCell ⟨g, 1, none⟩ v1).setCell ⟨g, 2, none⟩ v2).setCell ⟨g, 3, none⟩ v3).setCell ⟨g, 4, none⟩ v4) g v0 v1 v2 v3 v4 :=
  ((((h.set0 v0).set1 v1).set2 v2).set3 v3).set4 v4
theorem Fr.store5 (w : World) (g : Nat) (v0 v1 v2 v3 v4 : Value) : Fr w (((((w.setCell ⟨g, 0, none⟩ v0).setCell ⟨g, 1, none⟩ v1).setCell ⟨g, 2, none⟩ v2).setCell ⟨g, 3, none⟩ v3).setCell ⟨g, 4, none⟩ v4) (fun k => k = g) :=
  (((((Fr.setCell w ⟨g, 0, none⟩ v0).trans (Fr.setCell _ ⟨g, 1, none⟩ v1)).trans (Fr.setCell _ ⟨g, 2, none⟩ v2)).trans (Fr.setCell _ ⟨g, 3, none⟩ v3)).trans (Fr.setCell _ ⟨g, 4, none⟩ v4)).mono (by intro k _ h; rcases h with (((h | h) | h) | h) | h <;> exact h)

/-- The error's number of an Add. -/
def addE (St : List UInt8) (count : Nat) (d : List UInt8) : Int := if d.length = 0 then 5 else if 1024 < d.length then 2 else if count * 256 < St.length + 8 + d.length then 3 else 0
def addS (St : List UInt8) (sum count : Nat) (d : List UInt8) : List UInt8 := if addE St count d = 0 then St ++ numB d.length 4 ++ numB (sealN sum St.length d) 4 ++ d else St
def addN (St : List UInt8) (sum count : Nat) (d : List UInt8) : Nat := if addE St count d = 0 then sealN sum St.length d else sum

set_option maxRecDepth 100000 in
set_option maxHeartbeats 4000000 in
theorem add_ref (St : List UInt8) (sum dur first count : Nat) (hs : sum < 4294967296) (hSt : St.length ≤ 1048576) (hc : count ≤ 4096) (d : List UInt8) (hd : d.length ≤ 140737488355328) (w : World) :
    Calls Try.prog 15 #[logV St sum dur first count, .string (strOf d)] w fun e w' => e = .returned (.tuple #[logV (addS St sum count d) (addN St sum count d) dur first count, .int .i64 (addE St count d)]) ∧ Fr w w' (fun _ => False) := by
  have hz1 : (strOf d).size = d.length := size_strOf d
  have hz2 : (strOf St).size = St.length := size_strOf St
  have FA0 := Fr.alloc w (.cells #[.string (strOf St), .int .u32 (sum : Int), .int .i64 (dur : Int), .int .i64 (first : Int), .int .i64 (count : Int)] 40) (fun _ => False)
  have b0 := heap_alloc_new w (.cells #[.string (strOf St), .int .u32 (sum : Int), .int .i64 (dur : Int), .int .i64 (first : Int), .int .i64 (count : Int)] 40)
  have za : (w.alloc (.cells #[.string (strOf St), .int .u32 (sum : Int), .int .i64 (dur : Int), .int .i64 (first : Int), .int .i64 (count : Int)] 40)).heap.size = w.heap.size + 1 := by simp
  by_cases h0 : d.length = 0
  · have hE : addE St count d = 5 := by unfold addE; rw [if_pos h0]
    have hSS : addS St sum count d = St := by unfold addS; rw [if_neg (by rw [hE]; omega)]
    have hNN : addN St sum count d = sum := by unfold addN; rw [if_neg (by rw [hE]; omega)]
    rw [hE, hSS, hNN]
    have h0' : ((d.length : Int) == 0) = true := by simp [h0]
    clear hE hSS hNN
    unfold logV
    go_enter Try.func15, Try.ntmps15
    go_wp2_with fail
    have b1 := heap_alloc_new (w.alloc (.cells #[.string (strOf St), .int .u32 (sum : Int), .int .i64 (dur : Int), .int .i64 (first : Int), .int .i64 (count : Int)] 40)) (.cells #[.string (strOf St), .int .u32 (sum : Int), .int .i64 (dur : Int), .int .i64 (first : Int), .int .i64 (count : Int)] 40)
    rw [za] at b1
    refine bodyPost_ret (results_five2 rfl _ _ _ (five_of b1) rfl rfl) rfl ⟨rfl, (FA0.trans (Fr.alloc _ _ (fun _ => False))).mono (by simp)⟩
  have h0' : ((d.length : Int) == 0) = false := by rw [beq_eq_false_iff_ne]; omega
  by_cases h1 : 1024 < d.length
  · have hE : addE St count d = 2 := by unfold addE; rw [if_neg h0, if_pos h1]
    have hSS : addS St sum count d = St := by unfold addS; rw [if_neg (by rw [hE]; omega)]
    have hNN : addN St sum count d = sum := by unfold addN; rw [if_neg (by rw [hE]; omega)]
    rw [hE, hSS, hNN]
    have h1' : (1024 : Int) < (d.length : Int) := by omega
    clear hE hSS hNN
    unfold logV
    go_enter Try.func15, Try.ntmps15
    go_wp2_with fail
    have b1 := heap_alloc_new (w.alloc (.cells #[.string (strOf St), .int .u32 (sum : Int), .int .i64 (dur : Int), .int .i64 (first : Int), .int .i64 (count : Int)] 40)) (.cells #[.string (strOf St), .int .u32 (sum : Int), .int .i64 (dur : Int), .int .i64 (first : Int), .int .i64 (count : Int)] 40)
    rw [za] at b1
    refine bodyPost_ret (results_five2 rfl _ _ _ (five_of b1) rfl rfl) rfl ⟨rfl, (FA0.trans (Fr.alloc _ _ (fun _ => False))).mono (by simp)⟩
  have h1' : ¬ (1024 : Int) < (d.length : Int) := by omega
  by_cases h2 : count * 256 < St.length + 8 + d.length
  · have hE : addE St count d = 3 := by unfold addE; rw [if_neg h0, if_neg h1, if_pos h2]
    have hSS : addS St sum count d = St := by unfold addS; rw [if_neg (by rw [hE]; omega)]
    have hNN : addN St sum count d = sum := by unfold addN; rw [if_neg (by rw [hE]; omega)]
    rw [hE, hSS, hNN]
    have h2' : (count : Int) * 256 < (St.length : Int) + 8 + (d.length : Int) := by omega
    clear hE hSS hNN
    unfold logV
    go_enter Try.func15, Try.ntmps15
    go_wp2_with fail
    have b1 := heap_alloc_new (w.alloc (.cells #[.string (strOf St), .int .u32 (sum : Int), .int .i64 (dur : Int), .int .i64 (first : Int), .int .i64 (count : Int)] 40)) (.cells #[.string (strOf St), .int .u32 (sum : Int), .int .i64 (dur : Int), .int .i64 (first : Int), .int .i64 (count : Int)] 40)
    rw [za] at b1
    refine bodyPost_ret (results_five2 rfl _ _ _ (five_of b1) rfl rfl) rfl ⟨rfl, (FA0.trans (Fr.alloc _ _ (fun _ => False))).mono (by simp)⟩
  have h2' : ¬ (count : Int) * 256 < (St.length : Int) + 8 + (d.length : Int) := by omega
  have hE : addE St count d = 0 := by unfold addE; rw [if_neg h0, if_neg h1, if_neg h2]
  have hSS : addS St sum count d = St ++ numB d.length 4 ++ numB (sealN sum St.length d) 4 ++ d := by unfold addS; rw [if_pos hE]
  have hNN : addN St sum count d = sealN sum St.length d := by unfold addN; rw [if_pos hE]
  rw [hE, hSS, hNN]
  clear hE hSS hNN
  unfold logV
  go_enter Try.func15, Try.ntmps15
  go_wp2_with fail
  have FA1 := Fr.alloc (w.alloc (.cells #[.string (strOf St), .int .u32 (sum : Int), .int .i64 (dur : Int), .int .i64 (first : Int), .int .i64 (count : Int)] 40)) (.cells #[.string ⟨#[]⟩, .int .u32 0, .int .i64 0, .int .i64 0, .int .i64 0] 40) (fun _ => False)
  have b1 := heap_alloc_new (w.alloc (.cells #[.string (strOf St), .int .u32 (sum : Int), .int .i64 (dur : Int), .int .i64 (first : Int), .int .i64 (count : Int)] 40)) (.cells #[.string ⟨#[]⟩, .int .u32 0, .int .i64 0, .int .i64 0, .int .i64 0] 40)
  rw [za] at b1
  have hzz : ((w.alloc (.cells #[.string (strOf St), .int .u32 (sum : Int), .int .i64 (dur : Int), .int .i64 (first : Int), .int .i64 (count : Int)] 40)).alloc (.cells #[.string ⟨#[]⟩, .int .u32 0, .int .i64 0, .int .i64 0, .int .i64 0] 40)).heap.size = w.heap.size + 2 := by simp
  have FAA := (FA0.trans FA1).mono (Y := fun _ => False) (by simp)
  have H0 := hide ((five_of b0).fr FA1 (fun h => h))
  have H1 := hide (five_of b1)
  clear FA0 FA1 b0 b1 za
  generalize (w.alloc (.cells #[.string (strOf St), .int .u32 (sum : Int), .int .i64 (dur : Int), .int .i64 (first : Int), .int .i64 (count : Int)] 40)).alloc (.cells #[.string ⟨#[]⟩, .int .u32 0, .int .i64 0, .int .i64 0, .int .i64 0] 40) = WA at *
  obtain ⟨Bx, hBx⟩ : ∃ Bx, Bx = w.heap.size := ⟨_, rfl⟩
  obtain ⟨By, hBy⟩ : ∃ By, By = w.heap.size + 1 := ⟨_, rfl⟩
  rw [← hBx] at H0 ⊢
  rw [← hBy] at H1
  rw [show Bx + 1 = By by omega]
  have hne : Bx ≠ By := by omega
  have hBxw : w.heap.size ≤ Bx := by omega
  have hByw : w.heap.size ≤ By := by omega
  clear hBx hBy
  refine (seal_ref sum St.length hs (by omega) d (by omega) WA).mono ?_
  rintro x W1 ⟨rfl, f1⟩
  obtain ⟨t, ht⟩ : ∃ t, t = sealN sum St.length d := ⟨_, rfl⟩
  have htl : t < 4294967296 := by rw [ht]; exact sealN_lt _ _ _
  rw [← ht]
  have HTT := hide ht
  clear ht
  have G0 := H0.out.fr f1 (fun h => h)
  have HG1 := hide (H1.out.fr f1 (fun h => h))
  have HF1 := hide ((FAA.trans f1).mono (Y := fun _ => False) (by simp))
  have z1 := G0.z 1
  have y1 := G0.c1
  clear f1 FAA H0 H1 hzz
  have FS := Fr.setCell W1 ⟨Bx, 1, none⟩ (.int .u32 (t : Int))
  have HG0 : Hid (Five (W1.setCell ⟨Bx, 1, none⟩ (.int .u32 (t : Int))) Bx (.string (strOf St)) (.int .u32 (t : Int)) (.int .i64 (dur : Int)) (.int .i64 (first : Int)) (.int .i64 (count : Int))) := ⟨by rw [World.cell?_setCell_other _ _ _ _ (by simp)]; exact G0.c0, World.cell?_setCell_same _ _ _ G0.c1, by rw [World.cell?_setCell_other _ _ _ _ (by simp)]; exact G0.c2, by rw [World.cell?_setCell_other _ _ _ _ (by simp)]; exact G0.c3, by rw [World.cell?_setCell_other _ _ _ _ (by simp)]; exact G0.c4, fun j => by rw [World.frozen?_setCell]; exact G0.z j⟩
  have HG1' := hide (HG1.out.fr FS (fun h => hne h.symm))
  have HF1' := hide ((HF1.out.trans FS).mono (Y := fun _ => False) (by intro k hk h; rcases h with h | h; exact h; have h : k = Bx := h; omega))
  go_wp2_with fail
  clear G0 z1 y1 HG1 HF1 FS
  generalize W1.setCell ⟨Bx, 1, none⟩ (.int .u32 (t : Int)) = W2 at *
  have FD := Fr.drew W2 (fun _ => False)
  have hS := HG0.out.fr FD (fun h => h)
  have w1 : IntKind.u64.wrap (d.length : Int) = (d.length : Int) := by rw [IntKind.wrap_u64]; omega
  have w2 : IntKind.u64.wrap (t : Int) = (t : Int) := by rw [IntKind.wrap_u64]; omega
  refine wp_region_K (fun j => decide (j ≠ 15)) (fun V => Five V Bx (.string (strOf St)) (.int .u32 (t : Int)) (.int .i64 (dur : Int)) (.int .i64 (first : Int)) (.int .i64 (count : Int))) (by kernel_rfl) ?_
  refine wpAnyK_takeTo 0 (some 34) (.pointer (some ⟨Bx, 0, none⟩)) [15] rfl rfl (by kernel_rfl) (by kernel_rfl) (by kernel_rfl) (by kernel_rfl) (fun _ _ _ h => h) hS (Or.inl ⟨rfl, fun w1 hw1 => by go_simp⟩) ?_
  simp only [Act.put, List.setIfInBounds_toArray, List.set_cons_zero, List.set_cons_succ]
  refine wpAnyK_takeTo 1 (some 35) (.string (strOf St)) [15] rfl rfl (by kernel_rfl) (by kernel_rfl) (by kernel_rfl) (by kernel_rfl) (fun _ _ _ h => h) hS (Or.inl ⟨rfl, fun w1 hw1 => by obtain ⟨x0, x1, x2, x3, x4, _⟩ := hw1; go_simp⟩) ?_
  simp only [Act.put, List.setIfInBounds_toArray, List.set_cons_zero, List.set_cons_succ]
  refine wpAnyK_takeTo 2 (some 36) (.string (strOf d)) [15] rfl rfl (by kernel_rfl) (by kernel_rfl) (by kernel_rfl) (by kernel_rfl) (fun _ _ _ h => h) hS (Or.inl ⟨rfl, fun w1 hw1 => by go_simp⟩) ?_
  simp only [Act.put, List.setIfInBounds_toArray, List.set_cons_zero, List.set_cons_succ]
  refine wpAnyK_takeTo 3 (some 37) (.int .i64 (d.length : Int)) [15] rfl rfl (by kernel_rfl) (by kernel_rfl) (by kernel_rfl) (by kernel_rfl) (fun _ _ _ h => h) hS (Or.inl ⟨rfl, fun w1 hw1 => by go_simp⟩) ?_
  simp only [Act.put, List.setIfInBounds_toArray, List.set_cons_zero, List.set_cons_succ]
  refine wpAnyK_takeTo 4 (some 38) (.int .u64 (d.length : Int)) [15] rfl rfl (by kernel_rfl) (by kernel_rfl) (by kernel_rfl) (by kernel_rfl) (fun _ _ _ h => h) hS (Or.inl ⟨rfl, fun w1 hw1 => by go_simp⟩) ?_
  simp only [Act.put, List.setIfInBounds_toArray, List.set_cons_zero, List.set_cons_succ]
  refine wpAnyK_takeTo 6 (some 40) (.pointer (some ⟨Bx, 1, none⟩)) [15] rfl rfl (by kernel_rfl) (by kernel_rfl) (by kernel_rfl) (by kernel_rfl) (fun _ _ _ h => h) hS (Or.inl ⟨rfl, fun w1 hw1 => by go_simp⟩) ?_
  simp only [Act.put, List.setIfInBounds_toArray, List.set_cons_zero, List.set_cons_succ]
  refine wpAnyK_takeTo 7 (some 41) (.int .u32 (t : Int)) [15] rfl rfl (by kernel_rfl) (by kernel_rfl) (by kernel_rfl) (by kernel_rfl) (fun _ _ _ h => h) hS (Or.inl ⟨rfl, fun w1 hw1 => by obtain ⟨x0, x1, x2, x3, x4, _⟩ := hw1; go_simp⟩) ?_
  simp only [Act.put, List.setIfInBounds_toArray, List.set_cons_zero, List.set_cons_succ]
  refine wpAnyK_takeTo 8 (some 42) (.int .u64 (t : Int)) [15] rfl rfl (by kernel_rfl) (by kernel_rfl) (by kernel_rfl) (by kernel_rfl) (fun _ _ _ h => h) hS (Or.inl ⟨rfl, fun w1 hw1 => by go_simp⟩) ?_
  simp only [Act.put, List.setIfInBounds_toArray, List.set_cons_zero, List.set_cons_succ]
  refine wpAnyK_takeTo 11 (some 45) (.string (strOf d)) [15] rfl rfl (by kernel_rfl) (by kernel_rfl) (by kernel_rfl) (by kernel_rfl) (fun _ _ _ h => h) hS (Or.inl ⟨rfl, fun w1 hw1 => by go_simp⟩) ?_
  simp only [Act.put, List.setIfInBounds_toArray, List.set_cons_zero, List.set_cons_succ]
  refine wpAnyK_one (i := 5) (by kernel_rfl) rfl rfl ?_
  refine wp_call_to (some 39) rfl 44 #[.int .u64 (d.length : Int), .int .i64 4] (by go_simp) (number_ref d.length (by omega) 4 4 (by rfl) _) ?_
  rintro x V1 ⟨rfl, q1⟩
  have hS := hS.fr q1 (fun h => h)
  refine ⟨_, rfl, fun _ => hS, ?_⟩
  simp only [Act.put, List.setIfInBounds_toArray, List.set_cons_zero, List.set_cons_succ]
  refine wpAnyK_one (i := 9) (by kernel_rfl) rfl rfl ?_
  refine wp_call_to (some 43) rfl 44 #[.int .u64 (t : Int), .int .i64 4] (by go_simp) (number_ref t (by omega) 4 4 (by rfl) _) ?_
  rintro x V2 ⟨rfl, q2⟩
  have hS := hS.fr q2 (fun h => h)
  refine ⟨_, rfl, fun _ => hS, ?_⟩
  simp only [Act.put, List.setIfInBounds_toArray, List.set_cons_zero, List.set_cons_succ]
  refine wpAnyK_takeTo 10 (some 44) (.string (strOf (numB d.length 4 ++ numB t 4))) [15] rfl rfl (by kernel_rfl) (by kernel_rfl) (by kernel_rfl) (by kernel_rfl) (fun _ _ _ h => h) hS (Or.inl ⟨rfl, fun w1 hw1 => exec_concat 9 9 (.tmp 39) (.tmp 43) rfl rfl rfl (by rw [length_numB, length_numB]; omega)⟩) ?_
  simp only [Act.put, List.setIfInBounds_toArray, List.set_cons_zero, List.set_cons_succ]
  refine wpAnyK_takeTo 12 (some 46) (.string (strOf (numB d.length 4 ++ numB t 4 ++ d))) [15] rfl rfl (by kernel_rfl) (by kernel_rfl) (by kernel_rfl) (by kernel_rfl) (fun _ _ _ h => h) hS (Or.inl ⟨rfl, fun w1 hw1 => exec_concat 9 9 (.tmp 44) (.tmp 45) rfl rfl rfl (by rw [List.length_append, length_numB, length_numB]; omega)⟩) ?_
  simp only [Act.put, List.setIfInBounds_toArray, List.set_cons_zero, List.set_cons_succ]
  refine wpAnyK_takeTo 13 (some 47) (.string (strOf (St ++ (numB d.length 4 ++ numB t 4 ++ d)))) [15] rfl rfl (by kernel_rfl) (by kernel_rfl) (by kernel_rfl) (by kernel_rfl) (fun _ _ _ h => h) hS (Or.inl ⟨rfl, fun w1 hw1 => exec_concat 9 9 (.tmp 35) (.tmp 46) rfl rfl rfl (by rw [List.length_append, List.length_append, length_numB, length_numB]; omega)⟩) ?_
  simp only [Act.put, List.setIfInBounds_toArray, List.set_cons_zero, List.set_cons_succ]
  refine wpAnyK_takeTo 14 (some 48) (.pointer (some ⟨Bx, 0, none⟩)) [15] rfl rfl (by kernel_rfl) (by kernel_rfl) (by kernel_rfl) (by kernel_rfl) (fun _ _ _ h => h) hS (Or.inl ⟨rfl, fun w1 hw1 => by go_simp⟩) ?_
  simp only [Act.put, List.setIfInBounds_toArray, List.set_cons_zero, List.set_cons_succ]
  have z0 := hS.z 0
  have y0 := hS.c0
  refine wpAnyK_one (i := 15) (by kernel_rfl) rfl rfl ?_
  go_simp
  first | refine ⟨fun h => by cases h, ?_⟩ | skip
  refine wpAnyK_done (by kernel_rfl) ?_ _
  obtain ⟨SN, hSN⟩ : ∃ SN, SN = St ++ (numB d.length 4 ++ (numB t 4 ++ d)) := ⟨_, rfl⟩
  rw [← hSN]
  have HSN := hide hSN
  clear hSN
  have FS := Fr.setCell V2 ⟨Bx, 0, none⟩ (.string (strOf SN))
  have F2 := ((FD.trans q1).trans q2).mono (Y := fun _ => False) (by simp)
  have K0 : Five (V2.setCell ⟨Bx, 0, none⟩ (.string (strOf SN))) Bx (.string (strOf SN)) (.int .u32 (t : Int)) (.int .i64 (dur : Int)) (.int .i64 (first : Int)) (.int .i64 (count : Int)) := ⟨World.cell?_setCell_same _ _ _ hS.c0, by rw [World.cell?_setCell_other _ _ _ _ (by simp)]; exact hS.c1, by rw [World.cell?_setCell_other _ _ _ _ (by simp)]; exact hS.c2, by rw [World.cell?_setCell_other _ _ _ _ (by simp)]; exact hS.c3, by rw [World.cell?_setCell_other _ _ _ _ (by simp)]; exact hS.c4, fun j => by rw [World.frozen?_setCell]; exact hS.z j⟩
  have K1 := (HG1'.out.fr F2 (fun h => h)).fr FS (fun h => hne h.symm)
  have HF2 := hide (((HF1'.out.trans F2).trans FS).mono (Y := fun _ => False) (by intro k hk h; rcases h with (h | h) | h; exact h; exact h; have h : k = Bx := h; omega))
  clear hS z0 y0 FD q1 q2 F2 FS HG0 HG1' HF1'
  generalize V2.setCell ⟨Bx, 0, none⟩ (.string (strOf SN)) = W3 at *
  obtain ⟨k0, k1, k2, k3, k4, kz⟩ := K0
  obtain ⟨l0, l1, l2, l3, l4, lz⟩ := K1
  have KK1 : Hid (Five W3 By (.string ⟨#[]⟩) (.int .u32 0) (.int .i64 0) (.int .i64 0) (.int .i64 0)) := ⟨l0, l1, l2, l3, l4, lz⟩
  go_wp2_with fail
  refine bodyPost_ret (results_five2 rfl _ _ _ (KK1.out.store (.string (strOf SN)) (.int .u32 (t : Int)) (.int .i64 (dur : Int)) (.int .i64 (first : Int)) (.int .i64 (count : Int))) rfl rfl) rfl ⟨?_, ?_⟩
  · rw [HSN.out, ← HTT.out]
    simp only [List.append_assoc]
    rfl
  · exact (HF2.out.trans (Fr.store5 W3 By _ _ _ _ _)).mono (by intro k hk h; rcases h with h | h; exact h; omega)
end Go.Proofs.Ytachppnakmdjhaa
