/- A new disk. -/
import Derived.Test.YtpjelmlbikmddaaDd
namespace Go.Proofs.Ytpjelmlbikmddaa
open Go.RowKit
set_option maxRecDepth 100000

/-- A sector of noughts. -/
def blank : List UInt8 := part 0 0
theorem length_blank : blank.length = 256 := length_part 0 0 (Nat.zero_le _)

theorem full67 : ∃ i, Try.prog.info? 91 = some i ∧ i.zero = some (.agg (enc blank).toArray) ∧ i.size = 256 ∧ i.bytes = 256 := by
  have h0 : (Try.prog.info? 91).isSome = true := by kernel_rfl
  have h1 : (Try.prog.info? 91).bind (·.zero) = some (.agg (enc blank).toArray) := by kernel_rfl
  have h2 : (Try.prog.info? 91).map (·.size) = some 256 := by kernel_rfl
  have h3 : (Try.prog.info? 91).map (·.bytes) = some 256 := by kernel_rfl
  obtain ⟨i, hi⟩ := Option.isSome_iff_exists.1 h0
  rw [hi] at h1 h2 h3
  exact ⟨i, hi, h1, Option.some.inj h2, Option.some.inj h3⟩

theorem enc_blank : enc blank = List.replicate 256 (byt 0) := by
  unfold blank part enc
  rw [List.replicate_zero, List.nil_append, List.map_replicate]

theorem enc_blanks (n : Nat) : enc (List.replicate n blank).flatten = List.replicate (n * 256) (byt 0) := by
  induction n with
  | zero => simp [enc]
  | succ n ih =>
    rw [List.replicate_succ, List.flatten_cons, enc_append, ih, enc_blank, Nat.succ_mul, Nat.add_comm, List.replicate_append_replicate]

theorem made_blank (n : Nat) : madeCells (enc blank).toArray n = (List.replicate n (byt 0)).toArray := by
  apply Array.ext_getElem?
  intro k
  rw [enc_blank]
  simp only [madeCells, Array.getElem?_map, List.getElem?_toArray, List.getElem?_replicate]
  by_cases hk : k < n
  · rw [if_pos hk]
    have : (Array.range n)[k]? = some k := by simp [hk]
    rw [this]
    simp only [Option.map_some, Option.some.injEq, List.size_toArray, List.length_replicate]
    have h2 : k % 256 < 256 := Nat.mod_lt _ (by omega)
    rw [getElem!_pos _ _ (by simp only [List.size_toArray, List.length_replicate]; exact h2)]
    simp only [List.getElem_toArray, List.getElem_replicate]
  · rw [if_neg hk]
    have : (Array.range n)[k]? = none := by simp; omega
    rw [this]; rfl

theorem run_make52 (k : Nat) (hk : k ≤ 4096) (w : World) : (Instr.makeSlice 62 (.int .i64 k) (.int .i64 k)).run Try.prog w =
    .ok (.slice (some ⟨w.heap.size, 0, none⟩) k k) (w.alloc (.cells (enc (List.replicate k blank).flatten).toArray 91)) := by
  obtain ⟨i, hi, hz, hs, hb⟩ := full67
  have := run_make (P := Try.prog) w 62 91 i _ Try.underlying62 hi hz .i64 .i64 k k (by omega) (by omega) (by rw [hb]; omega) (by omega)
  rw [this, hs, enc_blanks]
  simp only [Int.toNat_natCast, Value.cells, made_blank]

theorem new_is (w : World) (k : Nat) (hk : k ≤ 4096) :
    DiskIs ((w.alloc (.cells (enc (List.replicate k blank).flatten).toArray 91)).alloc (.cells #[.slice (some ⟨w.heap.size, 0, none⟩) k k, .slice none 0 0] 67))
      (w.heap.size + 1) w.heap.size k (enc (List.replicate k blank).flatten).toArray (.slice none 0 0) (List.replicate k blank) [] := by
  have hl : (enc (List.replicate k blank).flatten).length = k * 256 := by rw [enc_blanks]; simp
  refine ⟨?_, ?_, ?_, ?_, ?_, ?_, ?_, ?_, ?_, ?_, ?_, ?_⟩
  · rw [heap_alloc2_new, List.length_replicate]
  · rw [heap_alloc2_old]
  · simp
  · unfold maxLen; omega
  · simpa using hl
  · rw [List.toList_toArray, List.take_of_length_le (by rw [hl]; simp)]
  · exact World.ownsRow_nil _ _ _ _
  · omega
  · simp [Value.ownBlock]
  · simp [Value.ownBlock]
  · intro s hs
    rw [List.eq_of_mem_replicate hs]; exact length_blank
  · simp

set_option maxHeartbeats 400000 in
theorem new_any (v : Int) (k : Nat) (hv : v = k) (h1 : 1 ≤ k) (hk : k ≤ 4096) (w : World) :
    Calls Try.prog 8 #[.int .i64 v] w fun e w' => e = .returned (.tuple #[.pointer (some ⟨w.heap.size + 1, 0, none⟩), .int .i64 0]) ∧
      DiskIs w' (w.heap.size + 1) w.heap.size k (enc (List.replicate k blank).flatten).toArray (.slice none 0 0) (List.replicate k blank) [] ∧
      w'.heap.size = w.heap.size + 2 ∧ Fr w w' (fun _ => False) := by
  subst hv
  have hmk := run_make52 k hk
  have hd := new_is w k hk
  go_enter Try.func8, Try.ntmps8
  go_wp2
  go_ret2
  refine ⟨rfl, hd, by simp, ((Fr.alloc _ _ (fun _ => False)).trans (Fr.alloc _ _ (fun _ => False))).mono (by simp)⟩

set_option maxHeartbeats 400000 in
theorem new_no (v : Int) (h : v < 1 ∨ 4096 < v) (w : World) :
    Calls Try.prog 8 #[.int .i64 v] w fun e w' => e = .returned (.tuple #[.pointer none, .int .i64 1]) ∧ w' = w := by
  by_cases h1 : v < 1
  · go_enter Try.func8, Try.ntmps8
    go_wp2
    go_ret2
    exact ⟨rfl, rfl⟩
  · have h2 : 4096 < v := by omega
    go_enter Try.func8, Try.ntmps8
    go_wp2
    go_ret2
    exact ⟨rfl, rfl⟩

end Go.Proofs.Ytpjelmlbikmddaa
