/- Names, kinds. -/
import Derived.Test.YtdeopneififnnaaKr
import Derived.Test.YtdeopneififnnaaB
import Derived.Lib.SlicesS
namespace Go.Proofs.Ytdeopneififnnaa
open Go.RowKit
set_option maxRecDepth 100000
set_option linter.unusedVariables false
set_option linter.unusedSimpArgs false

/-- Is it a name? -/
def nameP (s : ByteArray) : Bool := decide (0 < s.size) && decide (s.size ≤ 24)
theorem empty_iff (s : ByteArray) : s.toList = [] ↔ s.size = 0 := by
  have h1 : s.toList.length = s.size := by rw [ByteArray.toList_eq]; rfl
  constructor
  · intro h
    rw [h] at h1
    exact h1.symm
  · intro h
    exact List.eq_nil_of_length_eq_zero (h1.trans h)
theorem isName_any (s : ByteArray) (w : World) : Calls Try.prog 35 #[.string s] w fun e w' => e = .returned (.bool (nameP s)) ∧ w' = w := by
  by_cases h0 : s.size = 0
  · have h0l : s.toList = [] := (empty_iff s).2 h0
    have h0e : s.toList.isEmpty = true := by rw [h0l]; rfl
    have hn : nameP s = false := by unfold nameP; simp [h0]
    have HN := hide hn
    clear hn
    go_enter Try.func35, Try.ntmps35
    go_wp2
    go_ret
    exact ⟨by rw [HN.out]; rfl, rfl⟩
  · have h0l : ¬ (s.toList = []) := fun h => h0 ((empty_iff s).1 h)
    have h0e : s.toList.isEmpty = false := by simpa using h0l
    by_cases h1 : s.size ≤ 24
    · have h1b : decide ((s.size : Int) ≤ 24) = true := by simp; omega
      have hn : nameP s = true := by unfold nameP; simp; omega
      have HN := hide hn
      clear hn
      go_enter Try.func35, Try.ntmps35
      go_wp2
      go_ret
      exact ⟨by rw [HN.out]; rfl, rfl⟩
    · have h1b : decide ((s.size : Int) ≤ 24) = false := by simp; omega
      have hn : nameP s = false := by unfold nameP; simp; omega
      have HN := hide hn
      clear hn
      go_enter Try.func35, Try.ntmps35
      go_wp2
      go_ret
      exact ⟨by rw [HN.out]; rfl, rfl⟩
/-- A column. -/
structure Cn where
  name : ByteArray
  kind : Int
def Cn.agg (c : Cn) : Value := .agg #[.string c.name, .int .i64 c.kind]
def kindP (c : Cn) : Bool := decide (c.kind = 1) || decide (c.kind = 2)
theorem hasKind_any (c : Cn) (w : World) : Calls Try.prog 38 #[c.agg] w fun e w' => e = .returned (.bool (kindP c)) ∧ Fr w w' (fun _ => False) := by
  have b1 := heap_alloc_new w (.cells #[.string c.name, .int .i64 c.kind] 37)
  have c0 : (w.alloc (.cells #[.string c.name, .int .i64 c.kind] 37)).cell? ⟨w.heap.size, 0, none⟩ = some (.string c.name) := (cell_of_row _ _ _ _ _ _ b1).trans rfl
  have c1 : (w.alloc (.cells #[.string c.name, .int .i64 c.kind] 37)).cell? ⟨w.heap.size, 1, none⟩ = some (.int .i64 c.kind) := (cell_of_row _ _ _ _ _ _ b1).trans rfl
  have HF := hide (Fr.alloc w (.cells #[.string c.name, .int .i64 c.kind] 37) (fun _ => False))
  clear b1
  unfold Cn.agg
  by_cases h1 : c.kind = 1
  · have hn : kindP c = true := by unfold kindP; simp [h1]
    have HN := hide hn
    have h1b : (c.kind == 1) = true := by simp [h1]
    clear hn h1
    go_enter Try.func38, Try.ntmps38
    go_wp2
    go_ret
    exact ⟨by rw [HN.out]; rfl, HF.out⟩
  · have h1b : (c.kind == 1) = false := by simp [h1]
    by_cases h2 : c.kind = 2
    · have hn : kindP c = true := by unfold kindP; simp [h2]
      have HN := hide hn
      have h2b : (c.kind == 2) = true := by simp [h2]
      clear hn h1 h2
      go_enter Try.func38, Try.ntmps38
      go_wp2
      go_ret
      exact ⟨by rw [HN.out]; rfl, HF.out⟩
    · have hn : kindP c = false := by unfold kindP; simp [h1, h2]
      have HN := hide hn
      have h2b : (c.kind == 2) = false := by simp [h2]
      clear hn h1 h2
      go_enter Try.func38, Try.ntmps38
      go_wp2
      go_ret
      exact ⟨by rw [HN.out]; rfl, HF.out⟩
end Go.Proofs.Ytdeopneififnnaa
