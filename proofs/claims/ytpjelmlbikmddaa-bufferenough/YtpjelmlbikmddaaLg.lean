/- A log in memory; where it ends. -/
import Derived.Test.YtpjelmlbikmddaaRd
namespace Go.Proofs.Ytpjelmlbikmddaa
open Go.RowKit
set_option maxRecDepth 100000
set_option linter.unusedVariables false

/-- A box of six cells. -/
structure Six (w : World) (g : Nat) (x0 x1 x2 x3 x4 x5 : Value) : Prop where
  c0 : w.cell? ⟨g, 0, none⟩ = some x0
  c1 : w.cell? ⟨g, 1, none⟩ = some x1
  c2 : w.cell? ⟨g, 2, none⟩ = some x2
  c3 : w.cell? ⟨g, 3, none⟩ = some x3
  c4 : w.cell? ⟨g, 4, none⟩ = some x4
  c5 : w.cell? ⟨g, 5, none⟩ = some x5
  z : ∀ j, w.frozen? ⟨g, j, none⟩ = false
theorem six_of {w : World} {g : Nat} {x0 x1 x2 x3 x4 x5 : Value} {t : TypeId} (h : w.heap[g]? = some (.cells #[x0, x1, x2, x3, x4, x5] t (0, 0))) : Six w g x0 x1 x2 x3 x4 x5 := by
  refine ⟨?_, ?_, ?_, ?_, ?_, ?_, ?_⟩
  all_goals first | (rw [cell_of_row _ _ _ _ _ _ h]; rfl) | (intro j; simp [World.frozen?, h])
theorem Six.fr {w w' : World} {X : Nat → Prop} {g : Nat} {x0 x1 x2 x3 x4 x5 : Value} (h : Six w g x0 x1 x2 x3 x4 x5) (hf : Fr w w' X) (hx : ¬ X g) : Six w' g x0 x1 x2 x3 x4 x5 := by
  have hb := hf.block g (World.block_lt_of_cell? w _ h.c0) hx
  exact ⟨by rw [World.cell?_of_block (w := w) hb]; exact h.c0, by rw [World.cell?_of_block (w := w) hb]; exact h.c1, by rw [World.cell?_of_block (w := w) hb]; exact h.c2, by rw [World.cell?_of_block (w := w) hb]; exact h.c3, by rw [World.cell?_of_block (w := w) hb]; exact h.c4, by rw [World.cell?_of_block (w := w) hb]; exact h.c5, fun j => by rw [World.frozen?_of_block (w := w) hb]; exact h.z j⟩
theorem Six.set0 {w : World} {g : Nat} {x0 x1 x2 x3 x4 x5 : Value} (h : Six w g x0 x1 x2 x3 x4 x5) (v : Value) : Six (w.setCell ⟨g, 0, none⟩ v) g v x1 x2 x3 x4 x5 :=
  ⟨World.cell?_setCell_same _ _ _ h.c0, by rw [World.cell?_setCell_other _ _ _ _ (by simp)]; exact h.c1, by rw [World.cell?_setCell_other _ _ _ _ (by simp)]; exact h.c2, by rw [World.cell?_setCell_other _ _ _ _ (by simp)]; exact h.c3, by rw [World.cell?_setCell_other _ _ _ _ (by simp)]; exact h.c4, by rw [World.cell?_setCell_other _ _ _ _ (by simp)]; exact h.c5, fun j => by rw [World.frozen?_setCell]; exact h.z j⟩
theorem Six.set1 {w : World} {g : Nat} {x0 x1 x2 x3 x4 x5 : Value} (h : Six w g x0 x1 x2 x3 x4 x5) (v : Value) : Six (w.setCell ⟨g, 1, none⟩ v) g x0 v x2 x3 x4 x5 :=
  ⟨by rw [World.cell?_setCell_other _ _ _ _ (by simp)]; exact h.c0, World.cell?_setCell_same _ _ _ h.c1, by rw [World.cell?_setCell_other _ _ _ _ (by simp)]; exact h.c2, by rw [World.cell?_setCell_other _ _ _ _ (by simp)]; exact h.c3, by rw [World.cell?_setCell_other _ _ _ _ (by simp)]; exact h.c4, by rw [World.cell?_setCell_other _ _ _ _ (by simp)]; exact h.c5, fun j => by rw [World.frozen?_setCell]; exact h.z j⟩
theorem Six.set2 {w : World} {g : Nat} {x0 x1 x2 x3 x4 x5 : Value} (h : Six w g x0 x1 x2 x3 x4 x5) (v : Value) : Six (w.setCell ⟨g, 2, none⟩ v) g x0 x1 v x3 x4 x5 :=
  ⟨by rw [World.cell?_setCell_other _ _ _ _ (by simp)]; exact h.c0, by rw [World.cell?_setCell_other _ _ _ _ (by simp)]; exact h.c1, World.cell?_setCell_same _ _ _ h.c2, by rw [World.cell?_setCell_other _ _ _ _ (by simp)]; exact h.c3, by rw [World.cell?_setCell_other _ _ _ _ (by simp)]; exact h.c4, by rw [World.cell?_setCell_other _ _ _ _ (by simp)]; exact h.c5, fun j => by rw [World.frozen?_setCell]; exact h.z j⟩
theorem Six.set3 {w : World} {g : Nat} {x0 x1 x2 x3 x4 x5 : Value} (h : Six w g x0 x1 x2 x3 x4 x5) (v : Value) : Six (w.setCell ⟨g, 3, none⟩ v) g x0 x1 x2 v x4 x5 :=
  ⟨by rw [World.cell?_setCell_other _ _ _ _ (by simp)]; exact h.c0, by rw [World.cell?_setCell_other _ _ _ _ (by simp)]; exact h.c1, by rw [World.cell?_setCell_other _ _ _ _ (by simp)]; exact h.c2, World.cell?_setCell_same _ _ _ h.c3, by rw [World.cell?_setCell_other _ _ _ _ (by simp)]; exact h.c4, by rw [World.cell?_setCell_other _ _ _ _ (by simp)]; exact h.c5, fun j => by rw [World.frozen?_setCell]; exact h.z j⟩
theorem Six.set4 {w : World} {g : Nat} {x0 x1 x2 x3 x4 x5 : Value} (h : Six w g x0 x1 x2 x3 x4 x5) (v : Value) : Six (w.setCell ⟨g, 4, none⟩ v) g x0 x1 x2 x3 v x5 :=
  ⟨by rw [World.cell?_setCell_other _ _ _ _ (by simp)]; exact h.c0, by rw [World.cell?_setCell_other _ _ _ _ (by simp)]; exact h.c1, by rw [World.cell?_setCell_other _ _ _ _ (by simp)]; exact h.c2, by rw [World.cell?_setCell_other _ _ _ _ (by simp)]; exact h.c3, World.cell?_setCell_same _ _ _ h.c4, by rw [World.cell?_setCell_other _ _ _ _ (by simp)]; exact h.c5, fun j => by rw [World.frozen?_setCell]; exact h.z j⟩
theorem Six.set5 {w : World} {g : Nat} {x0 x1 x2 x3 x4 x5 : Value} (h : Six w g x0 x1 x2 x3 x4 x5) (v : Value) : Six (w.setCell ⟨g, 5, none⟩ v) g x0 x1 x2 x3 x4 v :=
  ⟨by rw [World.cell?_setCell_other _ _ _ _ (by simp)]; exact h.c0, by rw [World.cell?_setCell_other _ _ _ _ (by simp)]; exact h.c1, by rw [World.cell?_setCell_other _ _ _ _ (by simp)]; exact h.c2, by rw [World.cell?_setCell_other _ _ _ _ (by simp)]; exact h.c3, by rw [World.cell?_setCell_other _ _ _ _ (by simp)]; exact h.c4, World.cell?_setCell_same _ _ _ h.c5, fun j => by rw [World.frozen?_setCell]; exact h.z j⟩

theorem start_any (x : Nat) (hx : x ≤ 4611686018427387904) (w : World) : Calls Try.prog 56 #[.int .i64 (x : Int)] w fun e w' => e = .returned (.int .i64 ((x : Int) / 256 * 256)) ∧ w' = w := by
  have h := sectorStart_any x hx w
  rwa [show ((x / 256 * 256 : Nat) : Int) = (x : Int) / 256 * 256 by omega] at h
/-- A log's box: its disk, its sectors, its tail, how much is durable, the last sum. -/
abbrev LogAt (w : World) (g b first count : Nat) (ta : Option Addr) (tn tc : Nat) (dur sum : Nat) : Prop := Six w g (.pointer (some ⟨b, 0, none⟩)) (.int .i64 (first : Int)) (.int .i64 (count : Int)) (.slice ta tn tc) (.int .i64 (dur : Int)) (.int .u32 (sum : Int))

set_option maxRecDepth 100000 in
theorem durable_any {w : World} {g b first count : Nat} {ta : Option Addr} {tn tc dur sum : Nat} (h : LogAt w g b first count ta tn tc dur sum) :
    Calls Try.prog 103 #[.pointer (some ⟨g, 0, none⟩)] w fun e w' => e = .returned (.int .i64 (dur : Int)) ∧ w' = w := by
  have c4 := h.c4
  go_enter Try.func103, Try.ntmps103
  go_wp2
  go_ret
  exact ⟨rfl, rfl⟩
set_option maxRecDepth 100000 in
set_option maxHeartbeats 1000000 in
theorem wend_any {w : World} {g b first count : Nat} {ta : Option Addr} {tn tc dur sum : Nat} (h : LogAt w g b first count ta tn tc dur sum) (hd : dur ≤ 1048576) (ht : tn ≤ 1048576) :
    Calls Try.prog 104 #[.pointer (some ⟨g, 0, none⟩)] w fun e w' => e = .returned (.int .i64 (((dur : Int) / 256 * 256) + (tn : Int))) ∧ Fr w w' (fun _ => False) := by
  have HL := hide h
  have wk : IntKind.i64.wrap (((dur : Int) / 256 * 256) + (tn : Int)) = ((dur : Int) / 256 * 256) + (tn : Int) := by rw [IntKind.wrap_i64]; omega
  have hS : LogAt w.drew g b first count ta tn tc dur sum := h.fr (Fr.drew w (fun _ => False)) (fun h => h)
  clear h
  go_enter Try.func104, Try.ntmps104
  go_wp2_with fail
  refine wp_region_K (fun _ => true) (fun V => LogAt V g b first count ta tn tc dur sum) (by kernel_rfl) ?_
  refine wpAnyK_takeTo 0 (some 3) (.pointer (some ⟨g, 0, none⟩)) [] rfl rfl (by kernel_rfl) (by kernel_rfl) (by kernel_rfl) (by kernel_rfl) (fun _ _ _ h => h) hS (Or.inl ⟨rfl, fun w1 hw1 => by go_simp⟩) ?_
  simp only [Act.put, List.setIfInBounds_toArray, List.set_cons_zero, List.set_cons_succ]
  refine wpAnyK_takeTo 1 (some 4) (.pointer (some ⟨g, 0, none⟩)) [] rfl rfl (by kernel_rfl) (by kernel_rfl) (by kernel_rfl) (by kernel_rfl) (fun _ _ _ h => h) hS (Or.inl ⟨rfl, fun w1 hw1 => by go_simp⟩) ?_
  simp only [Act.put, List.setIfInBounds_toArray, List.set_cons_zero, List.set_cons_succ]
  refine wpAnyK_takeTo 2 (some 5) (.pointer (some ⟨g, 4, none⟩)) [] rfl rfl (by kernel_rfl) (by kernel_rfl) (by kernel_rfl) (by kernel_rfl) (fun _ _ _ h => h) hS (Or.inl ⟨rfl, fun w1 hw1 => by go_simp⟩) ?_
  simp only [Act.put, List.setIfInBounds_toArray, List.set_cons_zero, List.set_cons_succ]
  refine wpAnyK_takeTo 3 (some 6) (.int .i64 (dur : Int)) [] rfl rfl (by kernel_rfl) (by kernel_rfl) (by kernel_rfl) (by kernel_rfl) (fun _ _ _ h => h) hS (Or.inl ⟨rfl, fun w1 hw1 => by obtain ⟨x0, x1, x2, x3, x4, x5, _⟩ := hw1; go_simp⟩) ?_
  simp only [Act.put, List.setIfInBounds_toArray, List.set_cons_zero, List.set_cons_succ]
  refine wpAnyK_takeTo 5 (some 8) (.pointer (some ⟨g, 0, none⟩)) [] rfl rfl (by kernel_rfl) (by kernel_rfl) (by kernel_rfl) (by kernel_rfl) (fun _ _ _ h => h) hS (Or.inl ⟨rfl, fun w1 hw1 => by go_simp⟩) ?_
  simp only [Act.put, List.setIfInBounds_toArray, List.set_cons_zero, List.set_cons_succ]
  refine wpAnyK_takeTo 6 (some 9) (.pointer (some ⟨g, 0, none⟩)) [] rfl rfl (by kernel_rfl) (by kernel_rfl) (by kernel_rfl) (by kernel_rfl) (fun _ _ _ h => h) hS (Or.inl ⟨rfl, fun w1 hw1 => by go_simp⟩) ?_
  simp only [Act.put, List.setIfInBounds_toArray, List.set_cons_zero, List.set_cons_succ]
  refine wpAnyK_takeTo 7 (some 10) (.pointer (some ⟨g, 3, none⟩)) [] rfl rfl (by kernel_rfl) (by kernel_rfl) (by kernel_rfl) (by kernel_rfl) (fun _ _ _ h => h) hS (Or.inl ⟨rfl, fun w1 hw1 => by go_simp⟩) ?_
  simp only [Act.put, List.setIfInBounds_toArray, List.set_cons_zero, List.set_cons_succ]
  refine wpAnyK_takeTo 8 (some 11) (.slice ta tn tc) [] rfl rfl (by kernel_rfl) (by kernel_rfl) (by kernel_rfl) (by kernel_rfl) (fun _ _ _ h => h) hS (Or.inl ⟨rfl, fun w1 hw1 => by obtain ⟨x0, x1, x2, x3, x4, x5, _⟩ := hw1; go_simp⟩) ?_
  simp only [Act.put, List.setIfInBounds_toArray, List.set_cons_zero, List.set_cons_succ]
  refine wpAnyK_takeTo 9 (some 12) (.int .i64 (tn : Int)) [] rfl rfl (by kernel_rfl) (by kernel_rfl) (by kernel_rfl) (by kernel_rfl) (fun _ _ _ h => h) hS (Or.inl ⟨rfl, fun w1 hw1 => by go_simp⟩) ?_
  simp only [Act.put, List.setIfInBounds_toArray, List.set_cons_zero, List.set_cons_succ]
  refine wpAnyK_one (i := 4) (by kernel_rfl) rfl rfl ?_
  refine wp_call_to (some 7) rfl 56 #[.int .i64 (dur : Int)] (by go_simp) (start_any dur (by omega) w.drew) ?_
  rintro e V1 ⟨rfl, hV⟩
  obtain rfl := hV.symm
  clear hV
  refine ⟨_, rfl, fun _ => hS, ?_⟩
  simp only [Act.put, List.setIfInBounds_toArray, List.set_cons_zero, List.set_cons_succ]
  refine wpAnyK_takeTo 10 (some 13) (.int .i64 (((dur : Int) / 256 * 256) + (tn : Int))) [] rfl rfl (by kernel_rfl) (by kernel_rfl) (by kernel_rfl) (by kernel_rfl) (fun _ _ _ h => h) hS (Or.inl ⟨rfl, fun w1 hw1 => by go_simp; first | done | simp only [wk]⟩) ?_
  simp only [Act.put, List.setIfInBounds_toArray, List.set_cons_zero, List.set_cons_succ]
  refine wpAnyK_takeTo 11 (some 2) (.int .i64 (((dur : Int) / 256 * 256) + (tn : Int))) [] rfl rfl (by kernel_rfl) (by kernel_rfl) (by kernel_rfl) (by kernel_rfl) (fun _ _ _ h => h) hS (Or.inl ⟨rfl, fun w1 hw1 => by go_simp⟩) ?_
  simp only [Act.put, List.setIfInBounds_toArray, List.set_cons_zero, List.set_cons_succ]
  refine wpAnyK_done (by kernel_rfl) ?_ _
  clear hS
  go_wp2
  go_ret
  exact ⟨rfl, Fr.drew w _⟩
end Go.Proofs.Ytpjelmlbikmddaa
