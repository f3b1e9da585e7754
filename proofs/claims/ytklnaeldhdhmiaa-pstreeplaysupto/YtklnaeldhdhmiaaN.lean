/- awake. -/
import Derived.Test.YtklnaeldhdhmiaaM
namespace Go.Proofs.Ytklnaeldhdhmiaa
open Go.RowKit Go.Sort
set_option maxRecDepth 100000
set_option linter.unusedVariables false
set_option linter.unusedSimpArgs false

theorem Fr.two {a b c : World} (h : Fr a b (fun _ => False)) (k : Fr b c (fun _ => False)) : Fr a c (fun _ => False) := (h.trans k).mono (fun _ _ h => h.elim (fun h => h) (fun h => h))
set_option maxHeartbeats 8000000 in
theorem awake_any (w : World) : Calls Try.prog 7 #[] w fun e w' => e = .returned (.bool true) ∧ Fr w w' (fun _ => False) := by
  obtain ⟨p1, hp1⟩ : ∃ p1 : Pt, p1 = ⟨1, 5, 1⟩ := ⟨_, rfl⟩
  obtain ⟨p2, hp2⟩ : ∃ p2 : Pt, p2 = ⟨2, 9, 2⟩ := ⟨_, rfl⟩
  have HP1 := hide hp1
  have HP2 := hide hp2
  clear hp1 hp2
  go_enter Try.func7, Try.ntmps7
  go_wp2_with fail
  refine (new_any w w.heap.size (Nat.le_refl _)).mono ?_
  rintro e W1 ⟨gt, X1, rfl, h1, hX1, f1⟩
  have HF1 := hide f1
  have HA1 : Hid (Calls Try.prog 13 #[.pointer (some ⟨gt, 0, none⟩), .agg #[.int .i64 1, .int .i64 5, .int .i64 1]] W1 fun e w' => e = .returned (.int .i64 0) ∧ (∃ X' : Nat → Prop, TR w' w.heap.size gt [p1] X' ∧ ∀ k, X' k → w.heap.size ≤ k) ∧ Fr w w' (fun _ => False)) := hide (by
    have h := addT_any h1 p1 (by rw [HP1.out]; constructor <;> decide) (fun q hq => by cases hq) (by simp) f1.size
    rw [show p1.agg = .agg #[.int .i64 1, .int .i64 5, .int .i64 1] by rw [HP1.out]; rfl] at h
    refine h.mono ?_
    rintro e w' ⟨rfl, ⟨X', q1, q2⟩, q3⟩
    refine ⟨rfl, ⟨X', q1, fun k hk => ?_⟩, (f1.trans q3).mono (fun k hk h => by rcases h with h | h; exact h; (have := hX1 k h; omega))⟩
    rcases q2 k hk with h | h
    · exact hX1 k h
    · have := f1.size; omega)
  clear h1 hX1 f1
  go_wp2_with fail
  refine HA1.out.mono ?_
  rintro e W2 ⟨rfl, ⟨X2, h2, hX2⟩, f2⟩
  have HA2 : Hid (Calls Try.prog 13 #[.pointer (some ⟨gt, 0, none⟩), .agg #[.int .i64 2, .int .i64 9, .int .i64 2]] W2 fun e w' => e = .returned (.int .i64 0) ∧ (∃ X' : Nat → Prop, TR w' w.heap.size gt [p2, p1] X' ∧ ∀ k, X' k → w.heap.size ≤ k) ∧ Fr w w' (fun _ => False)) := hide (by
    have h := addT_any h2 p2 (by rw [HP2.out]; constructor <;> decide) (fun q hq => by rw [List.mem_singleton] at hq; subst hq; rw [HP1.out, HP2.out]; decide) (by simp) f2.size
    rw [show p2.agg = .agg #[.int .i64 2, .int .i64 9, .int .i64 2] by rw [HP2.out]; rfl] at h
    refine h.mono ?_
    rintro e w' ⟨rfl, ⟨X', q1, q2⟩, q3⟩
    refine ⟨rfl, ⟨X', q1, fun k hk => ?_⟩, (f2.trans q3).mono (fun k hk h => by rcases h with h | h; exact h; (have := hX2 k h; omega))⟩
    rcases q2 k hk with h | h
    · exact hX2 k h
    · have := f2.size; omega)
  clear h2 hX2 f2 HA1 HF1
  go_wp2_with fail
  refine HA2.out.mono ?_
  rintro e W3 ⟨rfl, ⟨X3, h3, hX3⟩, f3⟩
  have HF3 := hide f3
  have HT3 := hide h3
  have HFI := hide (findT_any h3 (by simp) 0 4 6)
  clear h3 hX3 f3 HA2
  go_wp2_with fail
  refine HFI.out.mono ?_
  rintro e W4 ⟨v, T, rfl, o4, hpm, _, f4, _⟩
  have hT : T = [p2] := by
    have : [p2, p1].filter (withinP 0 4 6) = [p2] := by rw [HP1.out, HP2.out]; rfl
    rw [this] at hpm
    exact List.perm_singleton.1 hpm
  subst hT
  obtain ⟨a, c, rfl⟩ := shape_n o4
  obtain ⟨g4, ha, k2⟩ := row_cell o4 (i := 2) (u := .int .i64 2) (by rw [HP2.out]; rfl)
  subst ha
  have HK2 := hide k2
  have HT4 := hide (HT3.out.fr f4 (fun _ _ h => h))
  have HF4 := hide (HF3.out.two f4)
  have HTO := hide (top_any HT4.out (by simp))
  clear o4 hpm f4 k2 HFI HT3 HF3
  go_wp2_with fail
  refine HTO.out.mono ?_
  rintro e W5 ⟨p, rfl, hm, hab, f5⟩
  have hpp : p = p2 := by
    rcases List.mem_cons.1 hm with h | h
    · exact h
    · rw [List.mem_singleton] at h
      exfalso
      refine hab p2 (by simp) ?_
      rw [h, HP1.out, HP2.out]
      left
      decide
  have hpa : p.agg = .agg #[.int .i64 2, .int .i64 9, .int .i64 2] := by rw [hpp, HP2.out]; rfl
  rw [hpa]
  have k5 := f5.cell' (fun h => h) HK2.out
  have FB := Fr.alloc W5 (.cells #[.int .i64 2, .int .i64 9, .int .i64 2] 28) (fun _ => False)
  have k6 := FB.cell' (fun h => h) k5
  have y2 : (W5.alloc (.cells #[.int .i64 2, .int .i64 9, .int .i64 2] 28)).cell? ⟨W5.heap.size, 2, none⟩ = some (.int .i64 2) := (cell_of_row _ _ _ _ _ _ (heap_alloc_new W5 _)).trans rfl
  have HLE := hide (len_any ((HT4.out.fr f5 (fun _ _ h => h)).fr FB (fun _ _ h => h)))
  have HF6 := hide ((HF4.out.two f5).two FB)
  clear hm hab f5 hpp hpa k5 FB HK2 HT4 HF4 HTO
  go_wp2_with fail
  refine HLE.out.mono ?_
  rintro e W7 ⟨rfl, hw7⟩
  rw [hw7]
  clear hw7 W7
  go_wp2
  go_ret
  exact ⟨rfl, HF6.out⟩
end Go.Proofs.Ytklnaeldhdhmiaa
