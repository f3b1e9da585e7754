/- The walk of BindScopes. -/
import Derived.Test.YtbcmgodpplapaaaQ
namespace Go.Proofs.Ytbcmgodpplapaaa
open Go.RowKit
set_option maxRecDepth 100000
set_option linter.unusedVariables false
set_option linter.unusedSimpArgs false

set_option maxHeartbeats 8000000 in
theorem scopes_walk {w : World} (a : Option Addr) (n c : Nat) (T : List Tb) (of_ name : ByteArray) (hT : TabsIn w a T) (hn : T.length = n) (hnb : n ≤ 1048576) (hcb : ∀ t ∈ T, t.cols.length ≤ 4611686018427387904) (hb : (scopeP T T.length).length ≤ 1048576) :
    Calls Try.prog 3 #[.slice a n c, .string of_, .string name] w fun x w' => x = .returned (.bool true) ∧ Fr w w' (fun _ => False) := by
  have HT := hide hT
  have HN := hide hn
  have HB := hide hb
  have HCB := hide hcb
  clear hT hn hb hcb
  go_enter Try.func3, Try.ntmps3
  go_wp2_with fail
  refine (awake_any w).mono ?_
  rintro e W1 ⟨rfl, f1⟩
  have HF1 := hide f1
  clear f1
  go_wp2_with fail
  refine (scopes_any (w := W1) a n c T (HT.out.fr HF1.out) HN.out hnb HCB.out HB.out).mono ?_
  rintro e W2 ⟨v, v', rfl, o1, o2, _, f2⟩
  obtain ⟨sa, sc, rfl⟩ := shape_n o1
  obtain ⟨ra, rc, rfl⟩ := shape_n o2
  obtain ⟨S, hS⟩ : ∃ S, scopeP T T.length = S := ⟨_, rfl⟩
  have hSb := HB.out
  rw [hS] at o1 o2 hSb ⊢
  obtain ⟨m, hm⟩ : ∃ m, S.length = m := ⟨_, rfl⟩
  rw [hm] at o1 o2 hSb ⊢
  have HC1 := hide (o1.at hm)
  have HC2 := hide (o2.at hm)
  have HM := hide hm
  have HF2 := hide (HF1.out.two f2)
  clear o1 o2 f2 HF1 hS hm
  go_wp2_with fail
  go_loopw [28] (fun i wr => ∃ j : Nat, j ≤ m ∧ i = .int .i64 (j : Int) ∧ Fr W2 wr (fun _ => False)) (fun i _ => m - (intOf i).toNat)
  case atStart => exact ⟨0, Nat.zero_le _, rfl, Fr.refl _ _⟩
  case round =>
    rename World => W3
    obtain ⟨j, hj, rfl, hf⟩ := hrel
    have HF3 := hide hf
    clear hf
    rcases Nat.lt_or_ge j m with hlt | hge
    · obtain ⟨x, hx⟩ : ∃ x, S[j]? = some x := ⟨_, List.getElem?_eq_getElem (by rw [HM.out]; exact hlt)⟩
      obtain ⟨g1, hg1, x0, x1, x2⟩ := (HC1.out.frF HF3.out) j x hx
      obtain ⟨g2, hg2, y0, y1, y2⟩ := (HC2.out.frF HF3.out) j x hx
      rw [hg1, hg2]
      clear hx hg1 hg2
      go_wp2_with fail
      go_quiet (fail)
      go_wp2
      go_roundw
      case rel => exact ⟨j + 1, by omega, by go_num, HF3.out.two (Fr.drewN _ _ _)⟩
      case measure => simp [intOf]; omega
    · have e1 : m = j := by omega
      subst e1
      go_wp2_with fail
      refine (find_any (w := W3) sa m sc S of_ name (HC1.out.frF HF3.out) HM.out (by omega)).mono ?_
      rintro e W4 ⟨rfl, f4⟩
      have HF4 := hide (HF3.out.two f4)
      obtain ⟨p, hp⟩ : ∃ p, (findP S of_ name).1 = p := ⟨_, rfl⟩
      obtain ⟨cd, hcd⟩ : ∃ cd, (findP S of_ name).2 = cd := ⟨_, rfl⟩
      have hR := rfind_any (w := W4) ra m rc S of_ name (HC2.out.frF HF4.out) HM.out (by omega)
      rw [hp, hcd] at hR ⊢
      have HR := hide hR
      clear f4 hp hcd hR
      go_wp2_with fail
      refine HR.out.mono ?_
      rintro e W5 ⟨rfl, hw⟩
      rw [hw]
      clear hw
      go_wp2
      go_ret
      exact ⟨rfl, HF2.out.two HF4.out⟩
end Go.Proofs.Ytbcmgodpplapaaa
