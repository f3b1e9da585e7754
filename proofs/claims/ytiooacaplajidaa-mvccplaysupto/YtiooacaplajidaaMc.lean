/- The clock, snapshots, keys written. -/
import Derived.Test.YtiooacaplajidaaMb
namespace Go.Proofs.Ytiooacaplajidaa
open Go.RowKit
set_option maxRecDepth 100000
set_option linter.unusedVariables false
set_option linter.unusedSimpArgs false

section
variable {w : World} {base mb N : Nat} {rl : Nat → Option Role} {s : St}
set_option maxHeartbeats 1000000 in
theorem now_any (h : Lay w base mb N rl s) : Calls Try.prog 12 #[.pointer (some ⟨mb, 0, none⟩)] w fun e w' => e = .returned (.int .i64 s.now) ∧ w' = w := by
  have c0 := h.c0
  go_enter Try.func12, Try.ntmps12
  go_wp2
  go_ret
  exact ⟨rfl, rfl⟩
set_option maxHeartbeats 1000000 in
theorem last_any (h : Lay w base mb N rl s) : Calls Try.prog 13 #[.pointer (some ⟨mb, 0, none⟩)] w fun e w' => e = .returned (.int .i64 s.last) ∧ w' = w := by
  have c1 := h.c1
  go_enter Try.func13, Try.ntmps13
  go_wp2
  go_ret
  exact ⟨rfl, rfl⟩
def nextP (s : St) : Int := max s.now (s.last + 1)
set_option maxHeartbeats 1000000 in
theorem next_any (h : Lay w base mb N rl s) (h0 : 0 ≤ s.last) (h1 : s.last ≤ 1099511627776) : Calls Try.prog 35 #[.pointer (some ⟨mb, 0, none⟩)] w fun e w' => e = .returned (.int .i64 (nextP s)) ∧ Fr w w' (fun _ => False) := by
  have c0 := h.c0
  have c1 := h.c1
  have hw : wrap64 (s.last + 1) = s.last + 1 := by unfold wrap64; omega
  have HN : Hid (nextP s = max s.now (s.last + 1)) := hide rfl
  go_enter Try.func35, Try.ntmps35
  go_wp2_with fail
  go_quiet (fail)
  go_wp2
  all_goals (go_ret; refine ⟨?_, Fr.drewN _ _ _⟩; rw [HN.out]; simp; omega)
def tickP (now n : Int) : Int := if 0 < n then now + min n (1099511627776 - now) else now
set_option maxHeartbeats 2000000 in
theorem tick_any (h : Lay w base mb N rl s) (h0 : 0 ≤ s.now) (h1 : s.now ≤ 1099511627776) (n : Int) : Calls Try.prog 19 #[.pointer (some ⟨mb, 0, none⟩), .int .i64 n] w fun e w' => e = .returned (.tuple #[]) ∧ Lay w' base mb N rl { s with now := tickP s.now n } ∧ Fr w w' (fun k => k = mb) := by
  have HL := hide h
  by_cases hn : 0 < n
  · have HT : Hid (tickP s.now n = s.now + min n (1099511627776 - s.now)) := hide (by unfold tickP; rw [if_pos hn])
    have c0 := h.c0
    have z0 := h.z 0
    have hw1 : wrap64 (1099511627776 - s.now) = 1099511627776 - s.now := by unfold wrap64; omega
    have hw2 : wrap64 (s.now + min n (1099511627776 - s.now)) = s.now + min n (1099511627776 - s.now) := by unfold wrap64; omega
    have hd : decide (n > 0) = true := by simpa using hn
    clear h
    go_enter Try.func19, Try.ntmps19
    go_wp2_with fail
    refine wp_region_K (fun q => decide (q ≠ 14)) (fun V : World => V.cell? ⟨mb, 0, none⟩ = some (.int .i64 s.now)) (by kernel_rfl) ?_
    have hS : (fun V : World => V.cell? ⟨mb, 0, none⟩ = some (.int .i64 s.now)) w.drew := c0
    obtain ⟨q, hq⟩ : ∃ q, min n (1099511627776 - s.now) = q := ⟨_, rfl⟩
    rw [hq] at hw2 HT
    have hw3 : IntKind.i64.wrap (1099511627776 - s.now) = 1099511627776 - s.now := wrap_i64_fit _ (by omega) (by omega)
    have hw4 : IntKind.i64.wrap (s.now + q) = s.now + q := wrap_i64_fit _ (by omega) (by omega)
    have hmin : ∀ V : World, (Builtin.min_ #[2, 2] 2 #[.int .i64 n, .int .i64 (1099511627776 - s.now)]).run Try.prog V = .ok (.int .i64 q) V := by
      intro V
      subst hq
      by_cases hc : 1099511627776 - s.now < n
      · rw [show min n (1099511627776 - s.now) = 1099511627776 - s.now by omega]; simp [go_sem, hc]
      · rw [show min n (1099511627776 - s.now) = n by omega]; simp [go_sem, hc]
    clear hq
    refine wpAnyK_takeTo 0 (some 6) (.pointer (some ⟨mb, 0, none⟩)) [14] rfl rfl (by kernel_rfl) (by kernel_rfl) (by kernel_rfl) (by kernel_rfl) (fun _ _ _ h => h) hS (Or.inl ⟨rfl, fun w1 hw1 => by have hw1 : w1.cell? ⟨mb, 0, none⟩ = some (.int .i64 s.now) := hw1; go_simp⟩) ?_
    simp only [Act.put, List.setIfInBounds_toArray, List.set_cons_zero, List.set_cons_succ]
    refine wpAnyK_takeTo 1 (some 7) (.pointer (some ⟨mb, 0, none⟩)) [14] rfl rfl (by kernel_rfl) (by kernel_rfl) (by kernel_rfl) (by kernel_rfl) (fun _ _ _ h => h) hS (Or.inl ⟨rfl, fun w1 hw1 => by have hw1 : w1.cell? ⟨mb, 0, none⟩ = some (.int .i64 s.now) := hw1; go_simp⟩) ?_
    simp only [Act.put, List.setIfInBounds_toArray, List.set_cons_zero, List.set_cons_succ]
    refine wpAnyK_takeTo 2 (some 8) (.pointer (some ⟨mb, 0, none⟩)) [14] rfl rfl (by kernel_rfl) (by kernel_rfl) (by kernel_rfl) (by kernel_rfl) (fun _ _ _ h => h) hS (Or.inl ⟨rfl, fun w1 hw1 => by have hw1 : w1.cell? ⟨mb, 0, none⟩ = some (.int .i64 s.now) := hw1; go_simp⟩) ?_
    simp only [Act.put, List.setIfInBounds_toArray, List.set_cons_zero, List.set_cons_succ]
    refine wpAnyK_takeTo 3 (some 9) (.int .i64 s.now) [14] rfl rfl (by kernel_rfl) (by kernel_rfl) (by kernel_rfl) (by kernel_rfl) (fun _ _ _ h => h) hS (Or.inl ⟨rfl, fun w1 hw1 => by have hw1 : w1.cell? ⟨mb, 0, none⟩ = some (.int .i64 s.now) := hw1; go_simp⟩) ?_
    simp only [Act.put, List.setIfInBounds_toArray, List.set_cons_zero, List.set_cons_succ]
    refine wpAnyK_takeTo 4 (some 10) (.int .i64 n) [14] rfl rfl (by kernel_rfl) (by kernel_rfl) (by kernel_rfl) (by kernel_rfl) (fun _ _ _ h => h) hS (Or.inl ⟨rfl, fun w1 hw1 => by have hw1 : w1.cell? ⟨mb, 0, none⟩ = some (.int .i64 s.now) := hw1; go_simp⟩) ?_
    simp only [Act.put, List.setIfInBounds_toArray, List.set_cons_zero, List.set_cons_succ]
    refine wpAnyK_takeTo 5 (some 11) (.pointer (some ⟨mb, 0, none⟩)) [14] rfl rfl (by kernel_rfl) (by kernel_rfl) (by kernel_rfl) (by kernel_rfl) (fun _ _ _ h => h) hS (Or.inl ⟨rfl, fun w1 hw1 => by have hw1 : w1.cell? ⟨mb, 0, none⟩ = some (.int .i64 s.now) := hw1; go_simp⟩) ?_
    simp only [Act.put, List.setIfInBounds_toArray, List.set_cons_zero, List.set_cons_succ]
    refine wpAnyK_takeTo 6 (some 12) (.pointer (some ⟨mb, 0, none⟩)) [14] rfl rfl (by kernel_rfl) (by kernel_rfl) (by kernel_rfl) (by kernel_rfl) (fun _ _ _ h => h) hS (Or.inl ⟨rfl, fun w1 hw1 => by have hw1 : w1.cell? ⟨mb, 0, none⟩ = some (.int .i64 s.now) := hw1; go_simp⟩) ?_
    simp only [Act.put, List.setIfInBounds_toArray, List.set_cons_zero, List.set_cons_succ]
    refine wpAnyK_takeTo 7 (some 13) (.pointer (some ⟨mb, 0, none⟩)) [14] rfl rfl (by kernel_rfl) (by kernel_rfl) (by kernel_rfl) (by kernel_rfl) (fun _ _ _ h => h) hS (Or.inl ⟨rfl, fun w1 hw1 => by have hw1 : w1.cell? ⟨mb, 0, none⟩ = some (.int .i64 s.now) := hw1; go_simp⟩) ?_
    simp only [Act.put, List.setIfInBounds_toArray, List.set_cons_zero, List.set_cons_succ]
    refine wpAnyK_takeTo 8 (some 14) (.int .i64 s.now) [14] rfl rfl (by kernel_rfl) (by kernel_rfl) (by kernel_rfl) (by kernel_rfl) (fun _ _ _ h => h) hS (Or.inl ⟨rfl, fun w1 hw1 => by have hw1 : w1.cell? ⟨mb, 0, none⟩ = some (.int .i64 s.now) := hw1; go_simp⟩) ?_
    simp only [Act.put, List.setIfInBounds_toArray, List.set_cons_zero, List.set_cons_succ]
    refine wpAnyK_takeTo 9 (some 15) (.int .i64 (1099511627776 - s.now)) [14] rfl rfl (by kernel_rfl) (by kernel_rfl) (by kernel_rfl) (by kernel_rfl) (fun _ _ _ h => h) hS (Or.inl ⟨rfl, fun w1 hw1 => by have hw1 : w1.cell? ⟨mb, 0, none⟩ = some (.int .i64 s.now) := hw1; go_simp⟩) ?_
    simp only [Act.put, List.setIfInBounds_toArray, List.set_cons_zero, List.set_cons_succ]
    refine wpAnyK_takeTo 10 (some 16) (.int .i64 q) [14] rfl rfl (by kernel_rfl) (by kernel_rfl) (by kernel_rfl) (by kernel_rfl) (fun _ _ _ h => h) hS (Or.inl ⟨rfl, fun w1 hw1 => by have hw1 : w1.cell? ⟨mb, 0, none⟩ = some (.int .i64 s.now) := hw1; go_simp⟩) ?_
    simp only [Act.put, List.setIfInBounds_toArray, List.set_cons_zero, List.set_cons_succ]
    refine wpAnyK_takeTo 11 (some 17) (.int .i64 (s.now + q)) [14] rfl rfl (by kernel_rfl) (by kernel_rfl) (by kernel_rfl) (by kernel_rfl) (fun _ _ _ h => h) hS (Or.inl ⟨rfl, fun w1 hw1 => by have hw1 : w1.cell? ⟨mb, 0, none⟩ = some (.int .i64 s.now) := hw1; go_simp⟩) ?_
    simp only [Act.put, List.setIfInBounds_toArray, List.set_cons_zero, List.set_cons_succ]
    refine wpAnyK_takeTo 12 (some 18) (.pointer (some ⟨mb, 0, none⟩)) [13, 14] rfl rfl (by kernel_rfl) (by kernel_rfl) (by kernel_rfl) (by kernel_rfl) (fun _ _ _ h => h) hS (Or.inl ⟨rfl, fun w1 hw1 => by have hw1 : w1.cell? ⟨mb, 0, none⟩ = some (.int .i64 s.now) := hw1; go_simp⟩) ?_
    simp only [Act.put, List.setIfInBounds_toArray, List.set_cons_zero, List.set_cons_succ]
    refine wpAnyK_takeTo 13 (some 19) (.pointer (some ⟨mb, 0, none⟩)) [14] rfl rfl (by kernel_rfl) (by kernel_rfl) (by kernel_rfl) (by kernel_rfl) (fun _ _ _ h => h) hS (Or.inl ⟨rfl, fun w1 hw1 => by have hw1 : w1.cell? ⟨mb, 0, none⟩ = some (.int .i64 s.now) := hw1; go_simp⟩) ?_
    simp only [Act.put, List.setIfInBounds_toArray, List.set_cons_zero, List.set_cons_succ]
    have HF := hide ((Fr.drew w (fun _ => False)).trans (Fr.setCell w.drew ⟨mb, 0, none⟩ (.int .i64 (s.now + q))))
    have c0' : w.drew.cell? ⟨mb, 0, none⟩ = some (.int .i64 s.now) := c0
    have z0' : w.drew.frozen? ⟨mb, 0, none⟩ = false := z0
    have HLd := hide (HL.out.frF (Fr.drew w (fun _ => False)))
    generalize w.drew = V at *
    clear hS
    refine wpAnyK_one (i := 14) (by kernel_rfl) rfl rfl ?_
    go_simp
    first | refine ⟨fun h => by cases h, ?_⟩ | skip
    refine wpAnyK_done (by kernel_rfl) ?_ _
    go_wp2
    go_end0
    have L := HLd.out
    refine ⟨rfl, L.rest (Fr.setCell V ⟨mb, 0, none⟩ (.int .i64 (s.now + q))) (fun j => by rw [World.frozen?_setCell]; exact L.z j) ?_ (cell_set L.c1) (cell_set L.c2) (cell_set L.c3) (cell_set L.c4) (cell_set L.c5) (cell_set L.c6) rfl rfl rfl rfl rfl rfl, HF.out.mono (fun k _ h => h.elim False.elim id)⟩
    show _ = some (Value.int .i64 (tickP s.now n))
    rw [HT.out]
    exact cell_set L.c0
  · have HT : Hid (tickP s.now n = s.now) := hide (by unfold tickP; rw [if_neg hn])
    have hd : decide (n > 0) = false := by simpa using hn
    clear h
    go_enter Try.func19, Try.ntmps19
    go_wp2
    go_end0
    exact ⟨rfl, by rw [HT.out]; exact HL.out, Fr.refl _ _⟩
end
end Go.Proofs.Ytiooacaplajidaa
