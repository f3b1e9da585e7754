/- Every term that Bind makes is reckoned. -/
import Derived.Test.YtbcmgodpplapaaaV
import Derived.Test.YtbcmgodpplapaaaQ
namespace Go.Proofs.Ytbcmgodpplapaaa
open Go.RowKit
set_option maxRecDepth 100000
set_option linter.unusedVariables false
set_option linter.unusedSimpArgs false

mutual
/-- No operator has more than two operands. -/
def WfT : Tm → Prop
  | .mk _ _ _ _ args => args.length ≤ 2 ∧ WfL args
def WfL : List Tm → Prop
  | [] => True
  | t :: l => WfT t ∧ WfL l
end
mutual
theorem reck_any (ra : Option Addr) (rn rc : Nat) (row : List Vl) (hrn : row.length = rn) (hrb : rn ≤ 4611686018427387904) : ∀ t : Tm, WfT t → Reck appP ra rn rc row t
  | .mk op kind val place args, h => by
    unfold WfT at h
    exact reckon_step appP ra rn rc row hrn hrb op kind val place args (reck_all ra rn rc row hrn hrb args h.2) h.1 (fun _ _ _ a b w => applied_any op a b w)
theorem reck_all (ra : Option Addr) (rn rc : Nat) (row : List Vl) (hrn : row.length = rn) (hrb : rn ≤ 4611686018427387904) : ∀ l : List Tm, WfL l → ∀ t ∈ l, Reck appP ra rn rc row t
  | [], _, t, h => by cases h
  | x :: l, hw, t, h => by
    unfold WfL at hw
    rcases List.mem_cons.1 h with h | h
    · rw [h]; exact reck_any ra rn rc row hrn hrb x hw.1
    · exact reck_all ra rn rc row hrn hrb l hw.2 t h
end
theorem resultK_len {op : List UInt8} {ks : List Int} {k : Int} (h : resultK op ks = some k) : ks.length ≤ 2 := by
  unfold resultK at h
  repeat' split at h
  all_goals first | (rename_i h1; subst h1; simp) | (rename_i h1; rcases h1 with h1 | h1 <;> subst h1 <;> simp) | cases h
mutual
theorem bindE_wf (S : List Cl) : ∀ (e : Ex) (t : Tm), bindE S e = .ok t → WfT t
  | .mk op num text of_ args, t, h => by
    rw [bindE] at h
    split at h
    · obtain rfl := Except.ok.inj h; unfold WfT; exact ⟨by simp, by unfold WfL; trivial⟩
    · split at h
      · split at h
        · cases h
        · obtain rfl := Except.ok.inj h; unfold WfT; exact ⟨by simp, by unfold WfL; trivial⟩
      · split at h
        · split at h
          · obtain rfl := Except.ok.inj h; unfold WfT; exact ⟨by simp, by unfold WfL; trivial⟩
          · cases h
        · split at h
          · cases h
          · rename_i ts hts
            split at h
            · rename_i k hk
              obtain rfl := Except.ok.inj h
              unfold WfT
              exact ⟨by have := resultK_len hk; rwa [List.length_map] at this, bindL_wf S args ts hts⟩
            · cases h
theorem bindL_wf (S : List Cl) : ∀ (l : List Ex) (ts : List Tm), bindL S l = .ok ts → WfL ts
  | [], ts, h => by rw [bindL] at h; obtain rfl := Except.ok.inj h; unfold WfL; trivial
  | e :: l, ts, h => by
    rw [bindL] at h
    split at h
    · cases h
    · rename_i t ht
      split at h
      · cases h
      · rename_i us hus
        obtain rfl := Except.ok.inj h
        unfold WfL
        exact ⟨bindE_wf S e t ht, bindL_wf S l us hus⟩
end
end Go.Proofs.Ytbcmgodpplapaaa
