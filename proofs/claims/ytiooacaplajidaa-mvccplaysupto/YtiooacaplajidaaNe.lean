/- shares, where nothing is shared. -/
import Derived.Test.YtiooacaplajidaaNd
import Derived.Lib.SlicesS
namespace Go.Proofs.Ytiooacaplajidaa
open Go.RowKit
set_option maxRecDepth 100000
set_option linter.unusedVariables false
set_option linter.unusedSimpArgs false

def Same (w w' : World) : Prop := w' = w
set_option maxHeartbeats 4000000 in
theorem shares_none {w : World} {P1 P2 : Nat → Prop} (a1 : Option Addr) (n1 c1 : Nat) (A : List ByteArray) (a2 : Option Addr) (n2 c2 : Nat) (B : List ByteArray) (hA : StrsIn P1 w a1 A) (hn1 : A.length = n1) (hB : StrsIn P2 w a2 B) (hn2 : B.length = n2) (h1 : n1 ≤ 4611686018427387904) (h2 : n2 ≤ 4611686018427387904) (hno : ∀ x ∈ A, x ∉ B) :
    Calls Try.prog 18 #[.slice a1 n1 c1, .slice a2 n2 c2] w fun e w' => e = .returned (.bool false) ∧ w' = w := by
  have HA := hide hA
  have HB := hide hB
  have HN1 := hide hn1
  have HN2 := hide hn2
  have HNO := hide hno
  clear hA hB hn1 hn2 hno
  go_enter Try.func18, Try.ntmps18
  go_wp2
  go_loopw [11] (fun i wr => ∃ j : Nat, j ≤ n1 ∧ i = .int .i64 (j : Int) ∧ Same w wr) (fun i _ => n1 - (intOf i).toNat)
  case atStart => exact ⟨0, Nat.zero_le _, rfl, rfl⟩
  case round =>
    rename World => W1
    obtain ⟨j, hj, rfl, hw⟩ := hrel
    unfold Same at hw
    subst hw
    rcases Nat.lt_or_ge j n1 with hlt | hge
    · obtain ⟨x, hx⟩ : ∃ x, A[j]? = some x := ⟨_, List.getElem?_eq_getElem (by rw [HN1.out]; exact hlt)⟩
      obtain ⟨g, off, hg, _, hc, _⟩ := HA.out j x hx
      have HNX : Hid (x ∉ B) := hide (HNO.out x (List.mem_of_getElem? hx))
      subst hg
      clear hx
      go_wp2
      go_loopw [17] (fun i wr => ∃ q : Nat, q ≤ n2 ∧ i = .int .i64 (q : Int) ∧ Same W1 wr) (fun i _ => n2 - (intOf i).toNat)
      case atStart => exact ⟨0, Nat.zero_le _, rfl, rfl⟩
      case round =>
        rename World => W2
        obtain ⟨q, hq, rfl, hw⟩ := hrel
        unfold Same at hw
        subst hw
        rcases Nat.lt_or_ge q n2 with hlt2 | hge2
        · obtain ⟨y, hy⟩ : ∃ y, B[q]? = some y := ⟨_, List.getElem?_eq_getElem (by rw [HN2.out]; exact hlt2)⟩
          obtain ⟨g2, off2, hg2, _, hc2, _⟩ := HB.out q y hy
          have hne : ¬ (x = y) := fun he => HNX.out (by rw [he]; exact List.mem_of_getElem? hy)
          have hnb : (x.toList == y.toList) = false := (Go.Lib.bytes_beq_false_iff x y).2 hne
          have hnl : ¬ (x.toList = y.toList) := by simpa using hnb
          subst hg2
          clear hy
          go_wp2
          go_roundw
          case rel => exact ⟨q + 1, by omega, by go_num, rfl⟩
          case measure => simp [intOf]; omega
        · have e2 : n2 = q := by omega
          subst e2
          go_wp2
          go_roundw
          case rel => exact ⟨j + 1, by omega, by go_num, rfl⟩
          case measure => simp [intOf]; omega
    · have e1 : n1 = j := by omega
      subst e1
      go_wp2
      go_ret
      exact ⟨rfl, rfl⟩
end Go.Proofs.Ytiooacaplajidaa
