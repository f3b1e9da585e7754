/- The periods are awake; the same periods; an instant in some. -/
import Derived.Test.YtbdpdobaacbkkaaDoorMw
namespace Go.Proofs.YtbdpdobaacbkkaaDoor
open Go.RowKit
set_option linter.unusedVariables false

theorem Pers.nil (w : World) (a : Option Addr) : Pers w a [] := .inl rfl
theorem minus_unique {a : Per} {L O : List Per} (h : IsMinus a L O) (M : List Per) (hc : Canon M) (hm : ∀ t, Mem M t ↔ (Right a ∧ Has a t ∧ ¬ In L t)) : O = M :=
  canon_unique O M h.canon hc (fun t => by rw [h.mem, hm])
theorem minus_1359 (O : List Per) (h : IsMinus ⟨1, 9⟩ [⟨3, 5⟩] O) : O = [⟨1, 3⟩, ⟨5, 9⟩] := by
  refine minus_unique h _ (by simp [Canon]) (fun t => ?_)
  simp only [Mem, In, Has, Right, List.mem_cons, List.not_mem_nil, or_false, exists_eq_or_imp, exists_eq_left]
  omega
theorem pers_one (w : World) (p : Per) : Pers (w.alloc (.cells #[.int .i64 p.lo, .int .i64 p.hi] 23)) (some ⟨w.heap.size, 0, none⟩) [p] := by
  have h := two_of (heap_alloc_new w (.cells #[.int .i64 p.lo, .int .i64 p.hi] 23))
  refine .inr ⟨_, 0, rfl, fun j q hq => ?_⟩
  match j, hq with
  | 0, hq => simp at hq; subst hq; exact ⟨h.1, h.2.1⟩
  | j + 1, hq => simp at hq

set_option maxRecDepth 100000 in
set_option maxHeartbeats 1000000 in
theorem awake_any (w : World) : Calls Tryd.prog 7 #[] w fun e w' => e = .returned (.bool true) ∧ Fr w w' (fun _ => False) := by
  have HP := hide (pers_one w ⟨3, 5⟩)
  have HFA := hide (Fr.alloc w (.cells #[.int .i64 3, .int .i64 5] 23) (fun _ => False))
  have hm := minus_any ⟨1, 9⟩ (some ⟨w.heap.size, 0, none⟩) 1 [⟨3, 5⟩] _ HP.out (by simp)
  have hc := check_any ⟨1, 1⟩
  rw [codeP_no ⟨1, 1⟩ (by decide)] at hc
  unfold perV at hm hc
  simp only [List.length_cons, List.length_nil, Nat.zero_add] at hm
  go_enter Tryd.func7, Tryd.ntmps7
  go_wp2_with fail
  refine hm.mono ?_
  rintro e V ⟨v, O, rfl, ho, hi, f, _⟩
  obtain rfl := minus_1359 O hi
  have HF := hide ((HFA.out.trans f).mono (Y := fun _ => False) (by simp))
  obtain ⟨g, c, hve, _⟩ := ho.some (by simp)
  subst hve
  obtain ⟨g0, off0, he0, c00, c01⟩ := ho.pers.get (Fr.refl _ _) 0 ⟨1, 3⟩ rfl
  obtain ⟨g1, off1, he1, c10, c11⟩ := ho.pers.get (Fr.refl _ _) 1 ⟨5, 9⟩ rfl
  simp only [Option.some.injEq, Addr.mk.injEq, and_true] at he0 he1
  obtain ⟨rfl, rfl⟩ := he0
  obtain ⟨rfl, rfl⟩ := he1
  simp only [List.length_cons, List.length_nil, Nat.zero_add, Nat.zero_mul, Nat.one_mul] at c00 c01 c10 c11 ⊢
  clear ho hi f HFA HP hm
  go_wp2_with fail
  refine (hc _).mono ?_
  rintro e V2 ⟨rfl, f2⟩
  have HF2 := hide ((HF.out.trans f2).mono (Y := fun _ => False) (by simp))
  clear f2 hc
  go_wp2
  go_ret
  exact ⟨rfl, HF2.out⟩

end Go.Proofs.YtbdpdobaacbkkaaDoor
