/- The document's Holds. -/
import Derived.Test.YtbcmgodpplapaaaPl
namespace Go.Proofs.Ytbcmgodpplapaaa
open Go.RowKit
set_option maxRecDepth 100000
set_option linter.unusedVariables false
set_option linter.unusedSimpArgs false

def HoldsO (o : Except Int Vl) : Bool := match o with
  | .ok x => isT x
  | .error _ => false
theorem holdsO_eq (row : List Vl) (t : Tm) : HoldsT row t = HoldsO (evalE appP row t) := rfl
set_option maxHeartbeats 8000000 in
theorem rholds_any {w : World} (E : Ex) (v : Value) (sc rw_ : Value) (sa : Option Addr) (sn sp : Nat) (ra : Option Addr) (rn rc : Nat) (o : Except Int Vl) (hne : ∀ c, o = .error c → c ≠ 0) (hE : ExAt w E v)
    (hc : ∀ (W : World), Fr w W (fun _ => False) → Calls Try.prog 29 #[v, .slice sa sn sp, .slice ra rn rc] W fun e' w' => EvalPost o e' ∧ Fr W w' (fun _ => False)) :
    Calls Try.prog 17 #[v, .slice sa sn sp, .slice ra rn rc] w fun e w' => e = .returned (.bool (HoldsO o)) ∧ Fr w w' (fun _ => False) := by
  obtain ⟨op, num, text, of_, args⟩ := E
  unfold ExAt at hE
  obtain ⟨a, c, rfl, _, _⟩ := hE
  obtain ⟨n, hn⟩ : ∃ n, args.length = n := ⟨_, rfl⟩
  rw [hn] at hc ⊢
  have HF := hide (Fr.alloc w (.cells #[.string op, .int .i64 num, .string text, .string of_, .slice a n c] 42) (fun _ => False))
  have HX := hide (fiv_of (heap_alloc_new w (.cells #[.string op, .int .i64 num, .string text, .string of_, .slice a n c] 42)))
  have HC := hide hc
  have HN := hide hne
  clear hc hne hn
  have x0 := HX.out.c0
  have x1 := HX.out.c1
  have x2 := HX.out.c2
  have x3 := HX.out.c3
  have x4 := HX.out.c4
  go_enter Try.func17, Try.ntmps17
  go_wp2_with fail
  clear x0 x1 x2 x3 x4 HX
  refine (HC.out _ HF.out).mono ?_
  rintro e W2 ⟨hp, f2⟩
  have HF2 := hide (HF.out.two f2)
  clear f2 HF HC
  rcases o with cd | x
  · obtain rfl : e = .returned (.tuple #[zV.v, .int .i64 cd]) := hp
    have hc0 : (cd == 0) = false := by simp [HN.out cd rfl]
    have HF3 := hide (HF2.out.two (Fr.alloc W2 zObj (fun _ => False)))
    go_wp2
    go_ret
    exact ⟨rfl, HF3.out⟩
  · obtain rfl : e = .returned (.tuple #[x.v, .int .i64 0]) := hp
    have HF3 := hide (HF2.out.two (Fr.alloc W2 (.cells #[.int .i64 x.kind, .int .i64 x.num, .string x.text] 50) (fun _ => False)))
    have HE : Hid (HoldsO (.ok x) = ((x.kind == 3) && (x.num == 1))) := hide rfl
    obtain ⟨b, hb⟩ : ∃ b, (x.kind == 3) = b := ⟨_, rfl⟩
    cases b
    · go_wp2_with fail
      go_ret
      exact ⟨by rw [HE.out, hb]; rfl, HF3.out⟩
    · go_wp2_with fail
      go_ret
      exact ⟨by rw [HE.out, hb]; rfl, HF3.out⟩
end Go.Proofs.Ytbcmgodpplapaaa
