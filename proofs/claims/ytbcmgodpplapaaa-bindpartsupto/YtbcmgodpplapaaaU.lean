/- What operators make of values. -/
import Derived.Test.YtbcmgodpplapaaaL
import Derived.Test.YtbcmgodpplapaaaLay
namespace Go.Proofs.Ytbcmgodpplapaaa
open Go.RowKit
set_option maxRecDepth 100000
set_option linter.unusedVariables false
set_option linter.unusedSimpArgs false

def truthV (b : Bool) : Vl := if b = true then ⟨3, 1, ⟨#[]⟩⟩ else ⟨3, 0, ⟨#[]⟩⟩
def isT (x : Vl) : Bool := decide (x.kind = 3) && decide (x.num = 1)
set_option maxHeartbeats 1000000 in
theorem truth_any (b : Bool) (w : World) : Calls Try.prog 44 #[.bool b] w fun e w' => e = .returned (truthV b).v ∧ Fr w w' (fun _ => False) := by
  cases b
  · go_enter Try.func44, Try.ntmps44
    go_wp2
    exact bodyPost_ret (results_vl Try.results44 _ _ w.heap.size (tri_of (heap_alloc_new _ _)) rfl) rfl ⟨rfl, Fr.alloc _ _ _⟩
  · go_enter Try.func44, Try.ntmps44
    go_wp2
    exact bodyPost_ret (results_vl Try.results44 _ _ w.heap.size (tri_of (heap_alloc_new _ _)) rfl) rfl ⟨rfl, Fr.alloc _ _ _⟩
set_option maxHeartbeats 1000000 in
theorem isTrue_any (x : Vl) (w : World) : Calls Try.prog 28 #[x.v] w fun e w' => e = .returned (.bool (isT x)) ∧ Fr w w' (fun _ => False) := by
  obtain ⟨k, n, t⟩ := x
  unfold isT
  simp only []
  by_cases h1 : k = 3
  · subst h1
    by_cases h2 : n = 1
    · subst h2
      go_enter Try.func28, Try.ntmps28
      go_wp2
      go_ret
      exact ⟨rfl, Fr.alloc _ _ _⟩
    · have h2' : (n == 1) = false := by simp [h2]
      have e : (decide ((3 : Int) = 3) && decide (n = 1)) = false := by simp [h2]
      rw [e]
      go_enter Try.func28, Try.ntmps28
      go_wp2
      go_ret
      exact ⟨rfl, Fr.alloc _ _ _⟩
  · have h1' : (k == 3) = false := by simp [h1]
    have e : (decide (k = 3) && decide (n = 1)) = false := by simp [h1]
    rw [e]
    go_enter Try.func28, Try.ntmps28
    go_wp2
    go_ret
    exact ⟨rfl, Fr.alloc _ _ _⟩
def okD (a b : Int) : Bool := decide (0 ≤ bits BinOp.and IntKind.i64 (bits BinOp.xor IntKind.i64 a b) (bits BinOp.xor IntKind.i64 a (wrap64 (a - b))))
def diffP (a b : Int) : Option Int := if okD a b = true then some (wrap64 (a - b)) else none
theorem diff_any (a b : Int) (w : World) : Calls Try.prog 46 #[.int .i64 a, .int .i64 b] w fun e w' => NumPost (diffP a b) 171 e ∧ w' = w := by
  unfold diffP
  obtain ⟨q, hq⟩ : ∃ q, okD a b = q := ⟨_, rfl⟩
  have HQ := hide hq
  rw [hq]
  clear hq
  go_enter Try.func46, Try.ntmps46
  go_wp2_with fail
  rw [show decide (0 ≤ bits BinOp.and IntKind.i64 (bits BinOp.xor IntKind.i64 a b) (bits BinOp.xor IntKind.i64 a (wrap64 (a - b)))) = q from HQ.out]
  cases q
  · refine (fitting_no _ _).mono ?_
    rintro e w' ⟨rfl, hw⟩
    rw [hw]
    exact ⟨rfl, rfl, rfl⟩
  · refine (fitting_yes _ _).mono ?_
    rintro e w' ⟨rfl, hw⟩
    rw [hw]
    clear hw
    go_wp2
    go_ret
    exact ⟨rfl, rfl⟩
theorem u64_nat (a : Int) : ∃ n : Nat, IntKind.u64.wrap a = n ∧ n < 18446744073709551616 := by
  rw [IntKind.wrap_u64]
  exact ⟨(a % 18446744073709551616).toNat, by omega, by omega⟩
def mulN (a b : Int) : Int := wrap64 (IntKind.u64.wrap a * IntKind.u64.wrap b % 18446744073709551616)
def okM (a b : Int) : Bool := IntKind.u64.wrap (IntKind.u64.wrap a * IntKind.u64.wrap b / 18446744073709551616 - IntKind.u64.wrap (bits BinOp.and IntKind.u64 (IntKind.u64.wrap (a / 9223372036854775808)) (IntKind.u64.wrap b) + bits BinOp.and IntKind.u64 (IntKind.u64.wrap (b / 9223372036854775808)) (IntKind.u64.wrap a))) == IntKind.u64.wrap (mulN a b / 9223372036854775808)
def mulP (a b : Int) : Option Int := if okM a b = true then some (mulN a b) else none
theorem mulN_comm (a b : Int) : mulN a b = mulN b a := by unfold mulN; rw [Int.mul_comm]
theorem mulP_comm (a b : Int) : mulP a b = mulP b a := by
  have h : okM a b = okM b a := by
    unfold okM
    rw [mulN_comm b a, Int.mul_comm (IntKind.u64.wrap b) (IntKind.u64.wrap a), Int.add_comm (bits BinOp.and IntKind.u64 (IntKind.u64.wrap (b / 9223372036854775808)) (IntKind.u64.wrap a))]
  unfold mulP
  rw [h, mulN_comm]
set_option maxHeartbeats 1000000 in
theorem prod_any (a b : Int) (w : World) : Calls Try.prog 47 #[.int .i64 a, .int .i64 b] w fun e w' => NumPost (mulP a b) 171 e ∧ w' = w := by
  unfold mulP
  obtain ⟨q, hq⟩ : ∃ q, okM a b = q := ⟨_, rfl⟩
  obtain ⟨r, hr⟩ : ∃ r, mulN a b = r := ⟨_, rfl⟩
  rw [hq, hr]
  obtain ⟨x, hx, hx2⟩ := u64_nat a
  obtain ⟨y, hy, hy2⟩ := u64_nat b
  have HM := hide (Try.bits_Mul64 x y hx2 hy2 w)
  unfold okM at hq
  rw [hr, hx, hy] at hq
  unfold mulN at hr
  rw [hx, hy] at hr
  have HQ := hide hq
  have HR := hide hr
  clear hq hr
  go_enter Try.func47, Try.ntmps47
  go_wp2_with fail
  refine HM.out.mono ?_
  rintro e w' ⟨rfl, hw⟩
  rw [hw]
  clear hw
  go_wp2_with fail
  rw [HR.out, show (IntKind.u64.wrap ((x : Int) * (y : Int) / 18446744073709551616 - IntKind.u64.wrap (bits BinOp.and IntKind.u64 (IntKind.u64.wrap (a / 9223372036854775808)) (y : Int) + bits BinOp.and IntKind.u64 (IntKind.u64.wrap (b / 9223372036854775808)) (x : Int))) == IntKind.u64.wrap (r / 9223372036854775808)) = q from HQ.out]
  cases q
  · refine (fitting_no _ _).mono ?_
    rintro e w' ⟨rfl, hw⟩
    rw [hw]
    exact ⟨rfl, rfl, rfl⟩
  · refine (fitting_yes _ _).mono ?_
    rintro e w' ⟨rfl, hw⟩
    rw [hw]
    clear hw
    go_wp2
    go_ret
    exact ⟨rfl, rfl⟩
theorem or_any (g c : Nat) (x y : Int) (w : World) (h0 : w.cell? ⟨g, 0, none⟩ = some (.int .i64 x)) (h1 : w.cell? ⟨g, 1, none⟩ = some (.int .i64 y)) :
    Calls Try.prog 53 #[.slice (some ⟨g, 0, none⟩) 2 c] w fun e w' => e = .returned (.int .i64 (if x = 0 then y else x)) ∧ w' = w := by
  have H0 := hide h0
  have H1 := hide h1
  obtain ⟨z, hz⟩ : ∃ z, (if x = 0 then y else x) = z := ⟨_, rfl⟩
  rw [hz]
  have HZ := hide hz
  clear h0 h1 hz
  go_enter Try.func53, Try.ntmps53
  go_wp2_with fail
  go_loopw [8] (fun i wr => ∃ k : Nat, k ≤ 2 ∧ i = .int .i64 (k : Int) ∧ wr = w ∧ (1 ≤ k → x = 0) ∧ (2 ≤ k → y = 0)) (fun i _ => 2 - (intOf i).toNat)
  case atStart => exact ⟨0, by omega, rfl, rfl, fun h => by omega, fun h => by omega⟩
  case round =>
    obtain ⟨k, hk, rfl, rfl, he1, he2⟩ := hrel
    rcases (show k = 0 ∨ k = 1 ∨ k = 2 by omega) with rfl | rfl | rfl
    · have c0 := H0.out
      by_cases hx : x = 0
      · subst hx
        clear he1 he2
        go_wp2
        go_roundw
        case rel => exact ⟨1, by omega, by go_num, trivial, fun _ => trivial, fun h => by omega⟩
        case measure => simp [intOf]
      · have hx' : (x == 0) = false := by simp [hx]
        clear he1 he2
        go_wp2
        go_ret
        exact ⟨by rw [← HZ.out, if_neg hx]; rfl, rfl⟩
    · have c1 := H1.out
      have hx := he1 (by omega)
      subst hx
      clear he1 he2
      by_cases hy : y = 0
      · subst hy
        go_wp2
        go_roundw
        case rel => exact ⟨2, by omega, by go_num, trivial, fun _ => trivial, fun _ => trivial⟩
        case measure => simp [intOf]
      · have hy' : (y == 0) = false := by simp [hy]
        go_wp2
        go_ret
        exact ⟨by have h := HZ.out; simp at h; rw [← h]; rfl, rfl⟩
    · have hx := he1 (by omega)
      have hy := he2 (by omega)
      subst hx hy
      clear he1 he2
      go_wp2
      go_ret
      exact ⟨by have h := HZ.out; simp at h; rw [← h]; rfl, rfl⟩
end Go.Proofs.Ytbcmgodpplapaaa
