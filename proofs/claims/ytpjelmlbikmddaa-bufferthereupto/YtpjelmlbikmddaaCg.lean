/- SortFunc of at most twelve frames. -/
import Derived.Test.YtpjelmlbikmddaaCf
namespace Go.Proofs.Ytpjelmlbikmddaa
open Go.RowKit
set_option maxRecDepth 100000
set_option linter.unusedVariables false

theorem len64_any (w : World) : ∀ (n : Nat), n ≤ 12 → Calls Try.prog 74 #[.int .u64 (n : Int)] w fun e w' => (∃ z : Int, e = .returned (.int .i64 z)) ∧ w' = w
  | 0, _ => by
    go_enter Try.func74, Try.ntmps74
    go_wp2
    go_ret
    exact ⟨⟨_, rfl⟩, rfl⟩
  | 1, _ => by
    go_enter Try.func74, Try.ntmps74
    go_wp2
    go_ret
    exact ⟨⟨_, rfl⟩, rfl⟩
  | 2, _ => by
    go_enter Try.func74, Try.ntmps74
    go_wp2
    go_ret
    exact ⟨⟨_, rfl⟩, rfl⟩
  | 3, _ => by
    go_enter Try.func74, Try.ntmps74
    go_wp2
    go_ret
    exact ⟨⟨_, rfl⟩, rfl⟩
  | 4, _ => by
    go_enter Try.func74, Try.ntmps74
    go_wp2
    go_ret
    exact ⟨⟨_, rfl⟩, rfl⟩
  | 5, _ => by
    go_enter Try.func74, Try.ntmps74
    go_wp2
    go_ret
    exact ⟨⟨_, rfl⟩, rfl⟩
  | 6, _ => by
    go_enter Try.func74, Try.ntmps74
    go_wp2
    go_ret
    exact ⟨⟨_, rfl⟩, rfl⟩
  | 7, _ => by
    go_enter Try.func74, Try.ntmps74
    go_wp2
    go_ret
    exact ⟨⟨_, rfl⟩, rfl⟩
  | 8, _ => by
    go_enter Try.func74, Try.ntmps74
    go_wp2
    go_ret
    exact ⟨⟨_, rfl⟩, rfl⟩
  | 9, _ => by
    go_enter Try.func74, Try.ntmps74
    go_wp2
    go_ret
    exact ⟨⟨_, rfl⟩, rfl⟩
  | 10, _ => by
    go_enter Try.func74, Try.ntmps74
    go_wp2
    go_ret
    exact ⟨⟨_, rfl⟩, rfl⟩
  | 11, _ => by
    go_enter Try.func74, Try.ntmps74
    go_wp2
    go_ret
    exact ⟨⟨_, rfl⟩, rfl⟩
  | 12, _ => by
    go_enter Try.func74, Try.ntmps74
    go_wp2
    go_ret
    exact ⟨⟨_, rfl⟩, rfl⟩
  | n + 13, h => absurd h (by omega)
theorem len_any (w : World) (n : Nat) (h : n ≤ 12) : Calls Try.prog 61 #[.int .u64 (n : Int)] w fun e w' => (∃ z : Int, e = .returned (.int .i64 z)) ∧ w' = w := by
  have HL := hide (len64_any w n h)
  go_enter Try.func61, Try.ntmps61
  go_wp2_with (go_at_call 74; refine HL.out.mono ?_; rintro e w' ⟨⟨z, rfl⟩, hV⟩; obtain rfl := hV.symm; clear hV)
  go_ret
  exact ⟨⟨_, rfl⟩, rfl⟩
set_option maxHeartbeats 2000000 in
theorem pdq_any {w : World} {gp gf c : Nat} {L : List Frm} {Ps : List Nat} (hP : PtsAt w gp gf Ps) (hF : FrsAt w gf L) (hin : ∀ x ∈ Ps, x < L.length) (hne : gf ≠ gp) (hm : Ps.length ≤ 12) (z : Int) :
    Calls Try.prog 60 #[.slice (some ⟨gp, 0, none⟩) Ps.length c, .int .i64 0, .int .i64 (Ps.length : Int), .int .i64 z, .func (.func 50) #[] #[]] w fun e w' => e = .returned (.tuple #[]) ∧ ∃ Q : List Nat, Q.Perm Ps ∧ PtsAt w' gp gf Q ∧ Fr w w' (fun k => k = gp) := by
  have HI := hide (insertion_any (c := c) hP hF hin hne hm)
  obtain ⟨n, hn⟩ : ∃ n, n = Ps.length := ⟨_, rfl⟩
  rw [← hn] at hm HI ⊢
  clear hP hF hin hn hne
  go_enter Try.func60, Try.ntmps60
  go_wp2_with fail
  go_loopw [1, 2] (fun x y wr => x = .int .i64 0 ∧ y = .int .i64 (n : Int) ∧ wr = w) (fun _ _ _ => 0)
  case atStart => exact ⟨rfl, rfl, rfl⟩
  case round =>
    obtain ⟨rfl, rfl, rfl⟩ := hrel
    go_wp2_with (go_at_call 65; refine HI.out.mono ?_; rintro e W1 ⟨rfl, hQ⟩; have HQ := hide hQ; clear hQ)
    refine bodyPost_ret (results_none rfl _ _ _) rfl ?_
    exact ⟨rfl, HQ.out⟩
set_option maxHeartbeats 2000000 in
theorem sort_any {w : World} {gp gf c : Nat} {L : List Frm} {Ps : List Nat} (hP : PtsAt w gp gf Ps) (hF : FrsAt w gf L) (hin : ∀ x ∈ Ps, x < L.length) (hne : gf ≠ gp) (hm : Ps.length ≤ 12) :
    Calls Try.prog 49 #[.slice (some ⟨gp, 0, none⟩) Ps.length c, .func (.func 50) #[] #[]] w fun e w' => e = .returned (.tuple #[]) ∧ ∃ Q : List Nat, Q.Perm Ps ∧ PtsAt w' gp gf Q ∧ Fr w w' (fun k => k = gp) := by
  have HI := hide (fun z => pdq_any (c := c) hP hF hin hne hm z)
  obtain ⟨n, hn⟩ : ∃ n, n = Ps.length := ⟨_, rfl⟩
  rw [← hn] at hm HI ⊢
  have HL := hide (len_any w n hm)
  clear hP hF hin hn hne
  go_enter Try.func49, Try.ntmps49
  go_wp2_with (first
    | (go_at_call 61; refine HL.out.mono ?_; rintro e w' ⟨⟨z, rfl⟩, hV⟩; obtain rfl := hV.symm; clear hV)
    | (go_at_call 60; refine (HI.out _).mono ?_; rintro e W1 ⟨rfl, hQ⟩; have HQ := hide hQ; clear hQ))
  go_end0
  exact ⟨rfl, HQ.out⟩
theorem insertion_none (w : World) : Calls Try.prog 65 #[.slice none 0 0, .int .i64 0, .int .i64 0, .func (.func 50) #[] #[]] w fun e w' => e = .returned (.tuple #[]) ∧ w' = w := by
  go_enter Try.func65, Try.ntmps65
  go_wp2
  go_loopw [8] (fun i wr => i = .int .i64 1 ∧ wr = w) (fun _ _ => 0)
  case atStart => exact ⟨rfl, rfl⟩
  case round =>
    obtain ⟨rfl, rfl⟩ := hrel
    go_wp2
    go_end0
    exact ⟨rfl, rfl⟩
theorem pdq_none (w : World) (z : Int) : Calls Try.prog 60 #[.slice none 0 0, .int .i64 0, .int .i64 0, .int .i64 z, .func (.func 50) #[] #[]] w fun e w' => e = .returned (.tuple #[]) ∧ w' = w := by
  have HI := hide (insertion_none w)
  go_enter Try.func60, Try.ntmps60
  go_wp2_with fail
  go_loopw [1, 2] (fun x y wr => x = .int .i64 0 ∧ y = .int .i64 0 ∧ wr = w) (fun _ _ _ => 0)
  case atStart => exact ⟨rfl, rfl, rfl⟩
  case round =>
    obtain ⟨rfl, rfl, rfl⟩ := hrel
    go_wp2_with (go_at_call 65; refine HI.out.mono ?_; rintro e w' ⟨rfl, hV⟩; obtain rfl := hV.symm; clear hV)
    refine bodyPost_ret (results_none rfl _ _ _) rfl ?_
    exact ⟨rfl, rfl⟩
/-- None to be sorted. -/
theorem sort_none (w : World) : Calls Try.prog 49 #[.slice none 0 0, .func (.func 50) #[] #[]] w fun e w' => e = .returned (.tuple #[]) ∧ w' = w := by
  have HI := hide (fun z => pdq_none w z)
  have HL := hide (len_any w 0 (by omega))
  go_enter Try.func49, Try.ntmps49
  go_wp2_with (first
    | (go_at_call 61; refine HL.out.mono ?_; rintro e w' ⟨⟨z, rfl⟩, hV⟩; obtain rfl := hV.symm; clear hV)
    | (go_at_call 60; refine (HI.out _).mono ?_; rintro e w' ⟨rfl, hV⟩; obtain rfl := hV.symm; clear hV))
  go_end0
  exact ⟨rfl, rfl⟩
end Go.Proofs.Ytpjelmlbikmddaa
