/- awake: the fixed look at a disk comes out true. -/
import Derived.Test.YtdbchicanlglhaaQ
namespace Go.Proofs.Ytdbchicanlglhaa
open Go.RowKit

theorem awake_lays (x : List UInt8) : laysTo (List.replicate 2 blank) [(1, x)] (crashN [] (-1) (min (max 0 0) 256 : Int).toNat) 1 = List.replicate 2 blank := by
  rw [laysTo_none _ _ _ _ (by simp [crashN])]
  rfl

theorem rangeAt_block {w : World} {g : Nat} {l : List Value} {t : TypeId} (h : w.heap[g]? = some (.cells l.toArray t (0, 0))) : w.rangeAt g 0 l := by
  intro j v hv
  rw [cell_of_row _ _ _ _ _ _ h, Nat.zero_add]
  simpa using hv

theorem latest_here (S : List (List UInt8)) (n : Nat) (x : List UInt8) : latestOf S [(n, x)] n = x := by simp [latestOf, seek]
theorem latest_none (S : List (List UInt8)) (n : Nat) : latestOf S [] n = S.getD n [] := by simp [latestOf, seek]

set_option maxRecDepth 100000 in
set_option maxHeartbeats 1000000 in
theorem awake_any (w : World) : Calls Try.prog 9 #[] w fun e w' => e = .returned (.bool true) ∧ Fr w w' (fun _ => False) := by
  go_enter Try.func9, Try.ntmps9
  go_wp2_with fail
  refine (new_any 2 2 rfl (by omega) (by omega) w).mono ?_
  rintro e w1 ⟨rfl, hD1, hs1, F1⟩
  have HD1 := hide hD1
  have HS1 := hide hs1
  clear hD1 hs1
  go_wp2_with fail
  refine (full_any 7 7 rfl w1).mono ?_
  rintro e w2 ⟨rfl, hw2⟩
  have F2 : Fr w1 w2 (fun _ => False) := by rw [hw2]; exact Fr.alloc _ _ _
  have hb2 := latest_block hw2
  have HS2 := hide (by rw [hw2]; simp : w2.heap.size = w1.heap.size + 1)
  have HD2 := hide (HD1.out.fr F2 (by simp) (by simp) (by simp))
  have HR2 := hide (rangeAt_block hb2)
  clear hw2 hb2
  go_wp2_with fail
  refine (write_any HD2.out 1 (by omega) (by simp) w1.heap.size 0 256 (part 256 7) (length_part _ _ (Nat.le_refl _)) HR2.out (by simp [Value.ownBlock]) (by simp)).mono ?_
  rintro e w3 ⟨rfl, pv, hD3, hpv, F3⟩
  obtain ⟨pa, pc, rfl, _⟩ := hD3.pend_form
  have c31 := hD3.cell1
  have HD3 := hide hD3
  have HPV := hide hpv
  clear hD3 hpv
  go_wp2_with fail
  refine (pending_any _ _ _ _ _ c31).mono ?_
  rintro e w3' ⟨rfl, h3⟩
  obtain rfl := h3.symm
  clear h3
  go_wp2_with fail
  refine (read_any HD3.out 1 1 rfl (by simp) (by simp)).mono ?_
  rintro e w4 ⟨rfl, hb4, hs4, F4⟩
  have HB4 := hide hb4
  have HS4 := hide hs4
  have HD4 := hide (HD3.out.fr F4 (by simp) (by simp) (by simp))
  clear hb4 hs4 c31
  go_wp2_with fail
  refine (crash_any HD4.out none 0 0 [] ⟨rfl, .inl rfl⟩ (-1) 0 (by simp)).mono ?_
  rintro e w5 ⟨rfl, Cs5, hD5, F5⟩
  have HD5 := hide hD5
  clear hD5
  go_wp2_with fail
  refine (read_any HD5.out 1 1 rfl (by rw [laysTo_length]; simp) (by simp)).mono ?_
  rintro e w6 ⟨rfl, hb6, hs6, F6⟩
  have h34 := F4.size
  have h45 := F5.size
  have h23 := F3.size
  have h12 := F2.size
  have s1 := HS1.out
  have s4 := HS4.out
  have hne : ¬ (w3.heap.size + 1 = w.heap.size ∨ w3.heap.size + 1 = w.heap.size + 1) := by omega
  have hb46 : w6.heap[w3.heap.size + 1]? = some (.cells (enc (part 256 7)).toArray 67 (0, 0)) := by
    rw [F6.block _ (by omega) (by simp), F5.block _ (by omega) hne, HB4.out]
    rw [List.nil_append, show Int.toNat 1 = 1 from rfl, latest_here]
  have hb66 : w6.heap[w5.heap.size + 1]? = some (.cells (enc blank).toArray 67 (0, 0)) := by
    rw [hb6, latest_none, List.nil_append, show Int.toNat 1 = 1 from rfl]
    rw [show ([(1, part 256 7)] : List (Nat × List UInt8)).length = 1 from rfl, awake_lays]
    rfl
  have c7 : w6.cell? ⟨w3.heap.size + 1, 9, none⟩ = some (.int .u8 7) := by rw [cell_of_row _ _ _ _ _ _ hb46]; kernel_rfl
  have c0 : w6.cell? ⟨w5.heap.size + 1, 9, none⟩ = some (.int .u8 0) := by rw [cell_of_row _ _ _ _ _ _ hb66]; kernel_rfl
  have hD6 := HD5.out.fr F6 (by simp) (by simp) (by simp)
  have cs6 := hD6.cell0
  rw [laysTo_length] at cs6
  have HF : Hid (Fr w w6 (fun _ => False)) := by
    refine (((((F1.trans F2).trans F3).trans F4).trans F5).trans F6).mono ?_
    rintro k hk (((((h2 | h2) | h2 | h2) | h2) | h2 | h2) | h2)
    · exact h2
    · exact h2
    · omega
    · simp [Value.ownBlock] at h2
    · exact h2
    · omega
    · omega
    · exact h2
  clear hb46 hb66 hb6 hs6 F1 F2 F3 F4 F5 F6 h34 h45 h23 h12 s1 s4 hne hD6
  go_wp2_with (go_at_call 21; refine (sectors_any _ _ _ _ _ cs6).mono ?_; rintro e w6' ⟨rfl, rfl⟩)
  go_ret
  exact ⟨rfl, HF.out⟩

end Go.Proofs.Ytdbchicanlglhaa
