/- Bytes in memory, and the disk as it lies there: plain notions and their laws; then the walk of 'full'. -/
import Derived.Test.YtdbchicanlglhaaA
import Derived.Deep.MidRow
import Derived.Laws.CopyOwn
namespace Go.Proofs.Ytdbchicanlglhaa
open Go.RowKit

def byt (x : UInt8) : Value := .int .u8 x.toNat
def enc (l : List UInt8) : List Value := l.map byt

theorem length_enc (l : List UInt8) : (enc l).length = l.length := by simp [enc]
theorem enc_append (a b : List UInt8) : enc (a ++ b) = enc a ++ enc b := by simp [enc]
theorem enc_take (a : List UInt8) (n : Nat) : (enc a).take n = enc (a.take n) := by simp [enc, List.map_take]
theorem enc_drop (a : List UInt8) (n : Nat) : (enc a).drop n = enc (a.drop n) := by simp [enc, List.map_drop]
theorem enc_get (a : List UInt8) (n : Nat) : (enc a)[n]? = (a[n]?).map byt := by simp [enc]
theorem enc_oneCell (a : List UInt8) : ∀ v ∈ enc a, v.oneCell' = true := by
  intro v hv
  simp only [enc, List.mem_map] at hv
  obtain ⟨x, _, rfl⟩ := hv
  rfl

/-- A row of bytes that is one block of its own. -/
def bytesAt (w : World) (g : Nat) (l : List UInt8) : Prop := w.heap[g]? = some (.cells (enc l).toArray 5 (0, 0))

theorem bytesAt.cell {w : World} {g : Nat} {l : List UInt8} (h : bytesAt w g l) (j : Nat) (x : UInt8) (hx : l[j]? = some x) : w.cell? ⟨g, j, none⟩ = some (byt x) := by
  rw [cell_of_row w g j _ _ _ h]
  simp [enc_get, hx]

theorem info5 : Try.prog.info? 5 = some (Try.prog.info? 5).get! := by kernel_rfl

def part (k : Nat) (x : UInt8) : List UInt8 := List.replicate k x ++ List.replicate (256 - k) 0

theorem made256 (w : World) : (Instr.makeSlice 34 (.int .i64 256) (.int .i64 256)).run Try.prog w = .ok (.slice (some ⟨w.heap.size, 0, none⟩) 256 256) (w.alloc (.cells (enc (part 0 0)).toArray 5)) := by
  kernel_rfl

theorem length_part (k : Nat) (x : UInt8) (h : k ≤ 256) : (part k x).length = 256 := by
  simp [part]; omega

theorem part_zero (x : UInt8) : part 0 0 = part 0 x := rfl

theorem part_step (k : Nat) (x : UInt8) (h : k < 256) : (enc (part k x)).set k (byt x) = enc (part (k + 1) x) := by
  apply List.ext_getElem?
  intro i
  simp only [List.getElem?_set, enc_get, part, length_enc, List.length_append, List.length_replicate, List.getElem?_append, List.getElem?_replicate]
  by_cases h1 : i < k
  · have : ¬ k = i := by omega
    have h2 : i < k + 1 := by omega
    simp [this, h1, h2]
  · by_cases h2 : i = k
    · subst h2
      simp; omega
    · have : ¬ k = i := by omega
      have h3 : ¬ i < k + 1 := by omega
      simp only [this, h1, h3, if_false]
      by_cases h4 : i < 256
      · rw [if_pos (by omega), if_pos (by omega)]
      · rw [if_neg (by omega), if_neg (by omega)]

set_option maxRecDepth 100000 in
set_option maxHeartbeats 1000000 in
theorem full_any (v : Int) (x : UInt8) (hx : v = x.toNat) (w : World) :
    Calls Try.prog 14 #[.int .u8 v] w fun e w' => e = .returned (.slice (some ⟨w.heap.size, 0, none⟩) 256 256) ∧ w' = w.alloc (.cells (enc (part 256 x)).toArray 5) := by
  subst hx
  have hmk := made256
  go_enter Try.func14, Try.ntmps14
  go_wp2
  go_loopw [8] (fun i wr => ∃ k : Nat, k ≤ 256 ∧ i = .int .i64 k ∧ wr = w.alloc (.cells (enc (part k x)).toArray 5)) (fun i _ => 256 - (intOf i).toNat)
  case atStart => exact ⟨0, by omega, rfl, by rw [part_zero x]⟩
  case round =>
    obtain ⟨k, hk, rfl, rfl⟩ := hrel
    by_cases hlt : k < 256
    · obtain ⟨u, hu⟩ : ∃ u, (w.alloc (.cells (enc (part k x)).toArray 5)).cell? ⟨w.heap.size, k, none⟩ = some u := by
        refine ⟨_, bytesAt.cell (l := part k x) (heap_alloc_new _ _) k _ (List.getElem?_eq_getElem (by simp [part]; omega))⟩
      go_wp2
      go_roundw
      case rel => exact ⟨k + 1, by omega, by go_num, by rw [← part_step k x hlt]; simp [byt]⟩
      case measure => simp [intOf]; omega
    · have hk' : k = 256 := by omega
      subst hk'
      go_wp2
      go_ret
      exact ⟨rfl, rfl⟩

end Go.Proofs.Ytdbchicanlglhaa
