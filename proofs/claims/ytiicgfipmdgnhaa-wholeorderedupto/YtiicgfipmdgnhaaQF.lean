/- Giving up, and what is told of it. -/
import Derived.Test.YtiicgfipmdgnhaaQD
import Derived.Defers
import Derived.Recover
import Derived.Laws.Pointers
namespace Go.Proofs.Ytiicgfipmdgnhaa
open Go.RowKit
set_option maxRecDepth 100000

/-- What is given up with. -/
def refused (code at_ : Int) : PanicEntry := { v := .iface 77 (.agg #[.int .i64 code, .int .i64 at_]), recovered := false }

set_option maxHeartbeats 400000 in
theorem giveUp_any (code at_ : Int) (w : World) : Calls Try.prog 34 #[.int .i64 code, .int .i64 at_] w fun e w' => e = .panicked [refused code at_] ∧ w' = w := by
  go_enter Try.func34, Try.ntmps34
  go_wp2
  exact ⟨rfl, rfl, rfl⟩

set_option maxHeartbeats 400000 in
theorem mustFit_no (n at_ : Int) (h : 64 < n) (w : World) : Calls Try.prog 33 #[.int .i64 n, .int .i64 at_] w fun e w' => e = .panicked [refused 2 at_] ∧ w' = w := by
  go_enter Try.func33, Try.ntmps33
  go_wp2_with (go_at_call 34; refine (giveUp_any _ _ _).mono ?_; rintro e w' ⟨rfl, rfl⟩)
  exact ⟨rfl, rfl, rfl⟩
set_option maxHeartbeats 400000 in
theorem mustFit_yes (n at_ : Int) (h : n ≤ 64) (w : World) : Calls Try.prog 33 #[.int .i64 n, .int .i64 at_] w fun e w' => e = .returned (.tuple #[]) ∧ w' = w := by
  go_enter Try.func33, Try.ntmps33
  go_wp2
  go_end0
  exact ⟨rfl, rfl⟩

/-- A value in a slot. -/
def valOf (v : Val) : Value := .agg #[.int .i64 v.kind, .int .i64 v.num, .string (strOf v.text)]
def cellsV (v : Val) : List Value := [.int .i64 v.kind, .int .i64 v.num, .string (strOf v.text)]

theorem strOf_nil : strOf [] = ⟨#[]⟩ := rfl
theorem strOf_inj {a b : List UInt8} (h : strOf a = strOf b) : a = b := by
  unfold strOf at h
  injection h with h
  simpa using congrArg Array.toList h
theorem toList_strOf (l : List UInt8) : (strOf l).toList = l := by
  rw [ByteArray.toList_eq]; simp [strOf]
theorem size_strOf (l : List UInt8) : (strOf l).size = l.length := by simp [strOf, ByteArray.size]

set_option maxHeartbeats 1000000 in
theorem must_int (n : Int) (w : World) : Calls Try.prog 17 #[.agg #[.int .i64 1, .int .i64 n, .string (strOf [])]] w fun e w' => e = .returned (.tuple #[]) ∧ w' = w.alloc (.cells #[.int .i64 1, .int .i64 n, .string (strOf [])] 57) := by
  rw [strOf_nil]
  go_enter Try.func17, Try.ntmps17
  go_wp2
  go_end0
  exact ⟨rfl, rfl⟩
set_option maxHeartbeats 1000000 in
theorem must_text (l : List UInt8) (hl : l.length ≤ 64) (w : World) : Calls Try.prog 17 #[.agg #[.int .i64 2, .int .i64 0, .string (strOf l)]] w fun e w' => e = .returned (.tuple #[]) ∧ w' = w.alloc (.cells #[.int .i64 2, .int .i64 0, .string (strOf l)] 57) := by
  have hsz := size_strOf l
  go_enter Try.func17, Try.ntmps17
  go_wp2_with (go_at_call 33; refine (mustFit_yes _ _ (by omega) _).mono ?_; rintro e w' ⟨rfl, rfl⟩)
  go_end0
  exact ⟨rfl, rfl⟩
set_option maxHeartbeats 1000000 in
theorem must_long (l : List UInt8) (hl : 64 < l.length) (w : World) : Calls Try.prog 17 #[.agg #[.int .i64 2, .int .i64 0, .string (strOf l)]] w fun e w' => e = .panicked [refused 2 0] ∧ w' = w.alloc (.cells #[.int .i64 2, .int .i64 0, .string (strOf l)] 57) := by
  have hsz := size_strOf l
  go_enter Try.func17, Try.ntmps17
  go_wp2_with (go_at_call 33; refine (mustFit_no _ _ (by omega) _).mono ?_; rintro e w' ⟨rfl, rfl⟩)
  exact ⟨rfl, rfl, rfl⟩
set_option maxHeartbeats 1000000 in
theorem must_kind (k n : Int) (l : List UInt8) (h1 : ¬ (k = 1 ∧ l = [])) (h2 : ¬ (k = 2 ∧ n = 0)) (w : World) : Calls Try.prog 17 #[.agg #[.int .i64 k, .int .i64 n, .string (strOf l)]] w fun e w' => e = .panicked [refused 21 0] ∧ w' = w.alloc (.cells #[.int .i64 k, .int .i64 n, .string (strOf l)] 57) := by
  by_cases hk1 : k = 1
  · subst hk1
    have hne : l ≠ [] := fun h => h1 ⟨rfl, h⟩
    have hs : (strOf l).toList.isEmpty = false := by
      rw [toList_strOf]
      cases l with
      | nil => exact absurd rfl hne
      | cons _ _ => rfl
    clear h1 h2
    go_enter Try.func17, Try.ntmps17
    go_wp2_with (go_at_call 34; refine (giveUp_any _ _ _).mono ?_; rintro e w' ⟨rfl, rfl⟩)
    exact ⟨rfl, rfl, rfl⟩
  · by_cases hk2 : k = 2
    · subst hk2
      have hn : ¬ n = 0 := fun h => h2 ⟨rfl, h⟩
      clear h1 h2
      go_enter Try.func17, Try.ntmps17
      go_wp2_with (go_at_call 34; refine (giveUp_any _ _ _).mono ?_; rintro e w' ⟨rfl, rfl⟩)
      exact ⟨rfl, rfl, rfl⟩
    · clear h1 h2
      go_enter Try.func17, Try.ntmps17
      go_wp2_with (go_at_call 34; refine (giveUp_any _ _ _).mono ?_; rintro e w' ⟨rfl, rfl⟩)
      exact ⟨rfl, rfl, rfl⟩
end Go.Proofs.Ytiicgfipmdgnhaa
