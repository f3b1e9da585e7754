/- The periods are awake; the same periods; an instant in some. -/
import Derived.Test.YtaikhmedehbfbaaMw
namespace Go.Proofs.Ytaikhmedehbfbaa
open Go.RowKit
set_option linter.unusedVariables false

theorem Pers.nil (w : World) (a : Option Addr) : Pers w a [] := .inl rfl
theorem minus_unique {a : Per} {L O : List Per} (h : IsMinus a L O) (M : List Per) (hc : Canon M) (hm : ∀ t, Mem M t ↔ (Right a ∧ Has a t ∧ ¬ In L t)) : O = M :=
  canon_unique O M h.canon hc (fun t => by rw [h.mem, hm])
theorem minus_1359 (O : List Per) (h : IsMinus ⟨1, 9⟩ [⟨3, 5⟩] O) : O = [⟨1, 3⟩, ⟨5, 9⟩] := by
  refine minus_unique h _ (by simp [Canon]) (fun t => ?_)
  simp only [Mem, In, Has, Right, List.mem_cons, List.not_mem_nil, or_false, exists_eq_or_imp, exists_eq_left]
  omega
theorem pers_one (w : World) (p : Per) : Pers (w.alloc (.cells #[.int .i64 p.lo, .int .i64 p.hi] 23)) (some ⟨w.heap.size, 0, none⟩) [p] := by
  have h := two_of (heap_alloc_new w (.cells #[.int .i64 p.lo, .int .i64 p.hi] 23))
  refine .inr ⟨_, 0, rfl, fun j q hq => ?_⟩
  match j, hq with
  | 0, hq => simp at hq; subst hq; exact ⟨h.1, h.2.1⟩
  | j + 1, hq => simp at hq

set_option maxRecDepth 100000 in
set_option maxHeartbeats 1000000 in
theorem awake_any (w : World) : Calls Try.prog 8 #[] w fun e w' => e = .returned (.bool true) ∧ Fr w w' (fun _ => False) := by
  have HP := hide (pers_one w ⟨3, 5⟩)
  have HFA := hide (Fr.alloc w (.cells #[.int .i64 3, .int .i64 5] 23) (fun _ => False))
  have hm := minus_any ⟨1, 9⟩ (some ⟨w.heap.size, 0, none⟩) 1 [⟨3, 5⟩] _ HP.out (by simp)
  have hc := check_any ⟨1, 1⟩
  rw [codeP_no ⟨1, 1⟩ (by decide)] at hc
  unfold perV at hm hc
  simp only [List.length_cons, List.length_nil, Nat.zero_add] at hm
  go_enter Try.func8, Try.ntmps8
  go_wp2_with fail
  refine hm.mono ?_
  rintro e V ⟨v, O, rfl, ho, hi, f, _⟩
  obtain rfl := minus_1359 O hi
  have HF := hide ((HFA.out.trans f).mono (Y := fun _ => False) (by simp))
  obtain ⟨g, c, hve, _⟩ := ho.some (by simp)
  subst hve
  obtain ⟨g0, off0, he0, c00, c01⟩ := ho.pers.get (Fr.refl _ _) 0 ⟨1, 3⟩ rfl
  obtain ⟨g1, off1, he1, c10, c11⟩ := ho.pers.get (Fr.refl _ _) 1 ⟨5, 9⟩ rfl
  simp only [Option.some.injEq, Addr.mk.injEq, and_true] at he0 he1
  obtain ⟨rfl, rfl⟩ := he0
  obtain ⟨rfl, rfl⟩ := he1
  simp only [List.length_cons, List.length_nil, Nat.zero_add, Nat.zero_mul, Nat.one_mul] at c00 c01 c10 c11 ⊢
  clear ho hi f HFA HP hm
  go_wp2_with fail
  refine (hc _).mono ?_
  rintro e V2 ⟨rfl, f2⟩
  have HF2 := hide ((HF.out.trans f2).mono (Y := fun _ => False) (by simp))
  clear f2 hc
  go_wp2
  go_ret
  exact ⟨rfl, HF2.out⟩

set_option maxRecDepth 100000 in
set_option maxHeartbeats 1000000 in
theorem same_any (a1 : Option Addr) (c1 : Nat) (a2 : Option Addr) (c2 : Nat) (L : List Per) (w : World) (h1 : Pers w a1 L) (h2 : Pers w a2 L) (hL : L.length ≤ 140737488351232) :
    Calls Try.prog 11 #[.slice a1 L.length c1, .slice a2 L.length c2] w fun e w' => e = .returned (.bool true) ∧ Fr w w' (fun _ => False) := by
  have H1 := hide h1
  have H2 := hide h2
  clear h1 h2
  go_enter Try.func11, Try.ntmps11
  go_wp2_with fail
  go_loopw [5] (fun i wr => ∃ k : Nat, k ≤ L.length ∧ i = .int .i64 k ∧ Fr w wr (fun _ => False)) (fun i _ => L.length - (intOf i).toNat)
  case atStart => exact ⟨0, by omega, rfl, Fr.refl _ _⟩
  case round =>
    rename World => W
    obtain ⟨k, hk, rfl, hf⟩ := hrel
    have HF := hide hf
    clear hf
    by_cases hlt : k < L.length
    · obtain ⟨p, hp⟩ : ∃ p, L[k]? = some p := ⟨_, List.getElem?_eq_getElem hlt⟩
      have FD : Fr w W.drew (fun _ => False) := (HF.out.trans (Fr.drew W (fun _ => False))).mono (by simp)
      obtain ⟨g1, o1, rfl, p0, p1⟩ := H1.out.get FD k p hp
      obtain ⟨g2, o2, rfl, q0, q1⟩ := H2.out.get FD k p hp
      have HFD := hide FD
      have hS := And.intro (And.intro p0 p1) (And.intro q0 q1)
      clear hp FD p0 p1 q0 q1
      go_wp2_with fail
      refine wp_region_K (fun _ => true) (fun V => (V.cell? ⟨g1, o1 + k * 2, none⟩ = some (.int .i64 p.lo) ∧ V.cell? ⟨g1, o1 + k * 2 + 1, none⟩ = some (.int .i64 p.hi)) ∧ V.cell? ⟨g2, o2 + k * 2, none⟩ = some (.int .i64 p.lo) ∧ V.cell? ⟨g2, o2 + k * 2 + 1, none⟩ = some (.int .i64 p.hi)) (by kernel_rfl) ?_
      refine wpAnyK_takeTo 0 (some 17) (.slice (some ⟨g1, o1, none⟩) L.length c1) [] rfl rfl (by kernel_rfl) (by kernel_rfl) (by kernel_rfl) (by kernel_rfl) (fun _ _ _ h => h) hS (Or.inl ⟨rfl, fun w1 hw1 => by go_simp⟩) ?_
      simp only [Act.put, List.setIfInBounds_toArray, List.set_cons_zero, List.set_cons_succ]
      refine wpAnyK_takeTo 1 (some 18) (.int .i64 (k : Int)) [] rfl rfl (by kernel_rfl) (by kernel_rfl) (by kernel_rfl) (by kernel_rfl) (fun _ _ _ h => h) hS (Or.inl ⟨rfl, fun w1 hw1 => by go_simp⟩) ?_
      simp only [Act.put, List.setIfInBounds_toArray, List.set_cons_zero, List.set_cons_succ]
      refine wpAnyK_takeTo 2 (some 19) (.pointer (some ⟨g1, o1 + k * 2, none⟩)) [] rfl rfl (by kernel_rfl) (by kernel_rfl) (by kernel_rfl) (by kernel_rfl) (fun _ _ _ h => h) hS (Or.inl ⟨rfl, fun w1 hw1 => by go_simp; first | done | (intro h; omega)⟩) ?_
      simp only [Act.put, List.setIfInBounds_toArray, List.set_cons_zero, List.set_cons_succ]
      refine wpAnyK_takeTo 3 (some 20) (.agg #[.int .i64 p.lo, .int .i64 p.hi]) [] rfl rfl (by kernel_rfl) (by kernel_rfl) (by kernel_rfl) (by kernel_rfl) (fun _ _ _ h => h) hS (Or.inl ⟨rfl, fun w1 hw1 => by obtain ⟨⟨g0, g1⟩, g2, g3⟩ := hw1; go_simp⟩) ?_
      simp only [Act.put, List.setIfInBounds_toArray, List.set_cons_zero, List.set_cons_succ]
      refine wpAnyK_takeTo 4 (some 21) (.slice (some ⟨g2, o2, none⟩) L.length c2) [] rfl rfl (by kernel_rfl) (by kernel_rfl) (by kernel_rfl) (by kernel_rfl) (fun _ _ _ h => h) hS (Or.inl ⟨rfl, fun w1 hw1 => by go_simp⟩) ?_
      simp only [Act.put, List.setIfInBounds_toArray, List.set_cons_zero, List.set_cons_succ]
      refine wpAnyK_takeTo 5 (some 22) (.int .i64 (k : Int)) [] rfl rfl (by kernel_rfl) (by kernel_rfl) (by kernel_rfl) (by kernel_rfl) (fun _ _ _ h => h) hS (Or.inl ⟨rfl, fun w1 hw1 => by go_simp⟩) ?_
      simp only [Act.put, List.setIfInBounds_toArray, List.set_cons_zero, List.set_cons_succ]
      refine wpAnyK_takeTo 6 (some 23) (.pointer (some ⟨g2, o2 + k * 2, none⟩)) [] rfl rfl (by kernel_rfl) (by kernel_rfl) (by kernel_rfl) (by kernel_rfl) (fun _ _ _ h => h) hS (Or.inl ⟨rfl, fun w1 hw1 => by go_simp; first | done | (intro h; omega)⟩) ?_
      simp only [Act.put, List.setIfInBounds_toArray, List.set_cons_zero, List.set_cons_succ]
      refine wpAnyK_takeTo 7 (some 24) (.agg #[.int .i64 p.lo, .int .i64 p.hi]) [] rfl rfl (by kernel_rfl) (by kernel_rfl) (by kernel_rfl) (by kernel_rfl) (fun _ _ _ h => h) hS (Or.inl ⟨rfl, fun w1 hw1 => by obtain ⟨⟨g0, g1⟩, g2, g3⟩ := hw1; go_simp⟩) ?_
      simp only [Act.put, List.setIfInBounds_toArray, List.set_cons_zero, List.set_cons_succ]
      refine wpAnyK_takeTo 8 (some 25) (.bool false) [] rfl rfl (by kernel_rfl) (by kernel_rfl) (by kernel_rfl) (by kernel_rfl) (fun _ _ _ h => h) hS (Or.inl ⟨rfl, fun w1 hw1 => by go_simp⟩) ?_
      simp only [Act.put, List.setIfInBounds_toArray, List.set_cons_zero, List.set_cons_succ]
      refine wpAnyK_done (by kernel_rfl) ?_ _
      clear hS
      go_wp2
      go_roundw
      case rel => exact ⟨k + 1, by omega, by go_num, HFD.out⟩
      case measure => simp [intOf]; omega
    · obtain rfl : k = L.length := by omega
      go_wp2
      go_ret
      exact ⟨rfl, HF.out⟩

/-- An instant in one of them. -/
def memB (l : List Per) (t : Int) : Bool := l.any fun p => hasB p t
theorem hasB_iff (p : Per) (t : Int) : hasB p t = true ↔ Has p t := by simp [hasB, Has]
theorem memB_iff (l : List Per) (t : Int) : memB l t = true ↔ Mem l t := by
  simp only [memB, List.any_eq_true, hasB_iff, Mem]
theorem memB_snoc (l : List Per) (k : Nat) (p : Per) (t : Int) (h : l[k]? = some p) : memB (l.take (k + 1)) t = (memB (l.take k) t || hasB p t) := by
  rw [take_snoc l k p h]
  simp [memB]

set_option maxRecDepth 100000 in
set_option maxHeartbeats 2000000 in
theorem in_any (a : Option Addr) (c : Nat) (L : List Per) (t : Int) (w : World) (hv : Pers w a L) (hL : L.length ≤ 140737488351232) (hc : Canon L) (hr : ∀ q ∈ L, Right q) :
    Calls Try.prog 18 #[.slice a L.length c, .int .i64 t] w fun e w' => e = .returned (.tuple #[.bool (memB L t), .bool true]) ∧ Fr w w' (fun _ => False) := by
  have HV := hide hv
  have HC := hide hc
  have HR := hide hr
  clear hv hc hr
  go_enter Try.func18, Try.ntmps18
  go_wp2_with fail
  go_loopw [6, 7, 12] (fun x y i wr => ∃ k : Nat, k ≤ L.length ∧ x = .bool (memB (L.take k) t) ∧ y = .bool true ∧ i = .int .i64 k ∧ Fr w wr (fun _ => False)) (fun _ _ i _ => L.length - (intOf i).toNat)
  case atStart => exact ⟨0, by omega, by simp [memB], rfl, rfl, Fr.refl _ _⟩
  case round =>
    rename World => W
    obtain ⟨k, hk, rfl, rfl, rfl, hf⟩ := hrel
    have HF := hide hf
    clear hf
    by_cases hlt : k < L.length
    · obtain ⟨p, hp⟩ : ∃ p, L[k]? = some p := ⟨_, List.getElem?_eq_getElem hlt⟩
      obtain ⟨g, off, rfl, d0, d1⟩ := HV.out.get HF.out k p hp
      have HP := hide hp
      have hrp := (rightB_iff p).2 (HR.out p (List.mem_of_getElem? hp))
      have hck := check_any p
      rw [codeP_ok p hrp] at hck
      have hhs := has_any p t
      have FA := Fr.alloc W (.cells #[.int .i64 p.lo, .int .i64 p.hi] 23) (fun _ => False)
      have HNA := hide (two_of (heap_alloc_new W (.cells #[.int .i64 p.lo, .int .i64 p.hi] 23)))
      have HFA := hide ((HF.out.trans FA).mono (Y := fun _ => False) (by simp))
      have HM := hide (memB_snoc L k p t hp)
      unfold perV at hck hhs
      clear hp hrp FA
      by_cases hfd : memB (L.take k) t = true
      · rw [hfd]
        have hmm : memB (L.take (k + 1)) t = true := by rw [HM.out, hfd]; rfl
        clear hhs
        go_wp2_with fail
        generalize W.alloc (.cells #[.int .i64 p.lo, .int .i64 p.hi] 23) = W1 at *
        have HF1 := hide HFA.out
        have HN1 := hide HNA.out
        clear HFA HNA
        have HN2 := hide (HN1.out.fr (Fr.drew W1 (fun _ => False)) (fun h => h))
        have FD : Fr w W1.drew (fun _ => False) := (HF1.out.trans (Fr.drew W1 (fun _ => False))).mono (by simp)
        rcases k with _ | j
        · have hSx : ∀ V, Fr W1.drew V (fun _ => False) → V.cell? ⟨W.heap.size, 0, none⟩ = some (.int .i64 p.lo) ∧ V.cell? ⟨W.heap.size, 1, none⟩ = some (.int .i64 p.hi) := fun V hV => ⟨(HN2.out.fr hV (fun h => h)).1, (HN2.out.fr hV (fun h => h)).2.1⟩
          have hS := hSx _ (Fr.refl _ _)
          refine wp_region_K (fun _ => true) (fun V => V.cell? ⟨W.heap.size, 0, none⟩ = some (.int .i64 p.lo) ∧ V.cell? ⟨W.heap.size, 1, none⟩ = some (.int .i64 p.hi)) (by kernel_rfl) ?_
          refine wpAnyK_takeTo 0 (some 23) (.bool true) [] rfl rfl (by kernel_rfl) (by kernel_rfl) (by kernel_rfl) (by kernel_rfl) (fun _ _ _ h => h) hS (Or.inl ⟨rfl, fun w1 hw1 => by go_simp⟩) ?_
          simp only [Act.put, List.setIfInBounds_toArray, List.set_cons_zero, List.set_cons_succ]
          refine wpAnyK_takeTo 1 (some 24) (.bool true) [] rfl rfl (by kernel_rfl) (by kernel_rfl) (by kernel_rfl) (by kernel_rfl) (fun _ _ _ h => h) hS (Or.inl ⟨rfl, fun w1 hw1 => by go_simp⟩) ?_
          simp only [Act.put, List.setIfInBounds_toArray, List.set_cons_zero, List.set_cons_succ]
          refine wpAnyK_takeTo 2 (some 25) (.agg #[.int .i64 p.lo, .int .i64 p.hi]) [] rfl rfl (by kernel_rfl) (by kernel_rfl) (by kernel_rfl) (by kernel_rfl) (fun _ _ _ h => h) hS (Or.inl ⟨rfl, fun w1 hw1 => by obtain ⟨g0, g1⟩ := hw1; go_simp⟩) ?_
          simp only [Act.put, List.setIfInBounds_toArray, List.set_cons_zero, List.set_cons_succ]
          refine wpAnyK_one (i := 3) (by kernel_rfl) rfl rfl ?_
          refine wp_call_to (some 26) rfl 16 #[.agg #[.int .i64 p.lo, .int .i64 p.hi]] (by go_simp) (hck W1.drew) ?_
          rintro e W2 ⟨rfl, f2⟩
          have F2 : Fr w W2 (fun _ => False) := (FD.trans f2).mono (by simp)
          have hS := hSx W2 f2
          refine ⟨_, rfl, fun _ => hS, ?_⟩
          simp only [Act.put, List.setIfInBounds_toArray, List.set_cons_zero, List.set_cons_succ]
          refine wpAnyK_takeTo 4 (some 27) (.bool true) [] rfl rfl (by kernel_rfl) (by kernel_rfl) (by kernel_rfl) (by kernel_rfl) (fun _ _ _ h => h) hS (Or.inl ⟨rfl, fun w1 hw1 => by go_simp⟩) ?_
          simp only [Act.put, List.setIfInBounds_toArray, List.set_cons_zero, List.set_cons_succ]
          refine wpAnyK_takeTo 5 (some 28) (.bool true) [] rfl rfl (by kernel_rfl) (by kernel_rfl) (by kernel_rfl) (by kernel_rfl) (fun _ _ _ h => h) hS (Or.inl ⟨rfl, fun w1 hw1 => by go_simp⟩) ?_
          simp only [Act.put, List.setIfInBounds_toArray, List.set_cons_zero, List.set_cons_succ]
          refine wpAnyK_takeTo 6 (some 29) (.bool true) [] rfl rfl (by kernel_rfl) (by kernel_rfl) (by kernel_rfl) (by kernel_rfl) (fun _ _ _ h => h) hS (Or.inl ⟨rfl, fun w1 hw1 => by go_simp⟩) ?_
          simp only [Act.put, List.setIfInBounds_toArray, List.set_cons_zero, List.set_cons_succ]
          refine wpAnyK_takeTo 7 (some 30) (.int .i64 0) [] rfl rfl (by kernel_rfl) (by kernel_rfl) (by kernel_rfl) (by kernel_rfl) (fun _ _ _ h => h) hS (Or.inl ⟨rfl, fun w1 hw1 => by go_simp⟩) ?_
          simp only [Act.put, List.setIfInBounds_toArray, List.set_cons_zero, List.set_cons_succ]
          refine wpAnyK_takeTo 8 (some 31) (.bool true) [] rfl rfl (by kernel_rfl) (by kernel_rfl) (by kernel_rfl) (by kernel_rfl) (fun _ _ _ h => h) hS (Or.inl ⟨rfl, fun w1 hw1 => by go_simp⟩) ?_
          simp only [Act.put, List.setIfInBounds_toArray, List.set_cons_zero, List.set_cons_succ]
          refine wpAnyK_takeTo 9 (some 32) (.bool true) [] rfl rfl (by kernel_rfl) (by kernel_rfl) (by kernel_rfl) (by kernel_rfl) (fun _ _ _ h => h) hS (Or.inl ⟨rfl, fun w1 hw1 => by go_simp⟩) ?_
          simp only [Act.put, List.setIfInBounds_toArray, List.set_cons_zero, List.set_cons_succ]
          refine wpAnyK_takeTo 10 (some 33) (undef) [] rfl rfl (by kernel_rfl) (by kernel_rfl) (by kernel_rfl) (by kernel_rfl) (fun _ _ _ h => h) hS (Or.inr ⟨rfl, rfl⟩) ?_
          simp only [Act.put, List.setIfInBounds_toArray, List.set_cons_zero, List.set_cons_succ]
          refine wpAnyK_takeTo 11 (some 34) (undef) [] rfl rfl (by kernel_rfl) (by kernel_rfl) (by kernel_rfl) (by kernel_rfl) (fun _ _ _ h => h) hS (Or.inr ⟨rfl, rfl⟩) ?_
          simp only [Act.put, List.setIfInBounds_toArray, List.set_cons_zero, List.set_cons_succ]
          refine wpAnyK_takeTo 12 (some 35) (undef) [] rfl rfl (by kernel_rfl) (by kernel_rfl) (by kernel_rfl) (by kernel_rfl) (fun _ _ _ h => h) hS (Or.inr ⟨rfl, rfl⟩) ?_
          simp only [Act.put, List.setIfInBounds_toArray, List.set_cons_zero, List.set_cons_succ]
          refine wpAnyK_takeTo 13 (some 36) (undef) [] rfl rfl (by kernel_rfl) (by kernel_rfl) (by kernel_rfl) (by kernel_rfl) (fun _ _ _ h => h) hS (Or.inr ⟨rfl, rfl⟩) ?_
          simp only [Act.put, List.setIfInBounds_toArray, List.set_cons_zero, List.set_cons_succ]
          refine wpAnyK_takeTo 14 (some 37) (undef) [] rfl rfl (by kernel_rfl) (by kernel_rfl) (by kernel_rfl) (by kernel_rfl) (fun _ _ _ h => h) hS (Or.inr ⟨rfl, rfl⟩) ?_
          simp only [Act.put, List.setIfInBounds_toArray, List.set_cons_zero, List.set_cons_succ]
          refine wpAnyK_takeTo 15 (some 38) (undef) [] rfl rfl (by kernel_rfl) (by kernel_rfl) (by kernel_rfl) (by kernel_rfl) (fun _ _ _ h => h) hS (Or.inr ⟨rfl, rfl⟩) ?_
          simp only [Act.put, List.setIfInBounds_toArray, List.set_cons_zero, List.set_cons_succ]
          refine wpAnyK_takeTo 16 (some 39) (undef) [] rfl rfl (by kernel_rfl) (by kernel_rfl) (by kernel_rfl) (by kernel_rfl) (fun _ _ _ h => h) hS (Or.inr ⟨rfl, rfl⟩) ?_
          simp only [Act.put, List.setIfInBounds_toArray, List.set_cons_zero, List.set_cons_succ]
          refine wpAnyK_takeTo 17 (some 40) (undef) [] rfl rfl (by kernel_rfl) (by kernel_rfl) (by kernel_rfl) (by kernel_rfl) (fun _ _ _ h => h) hS (Or.inr ⟨rfl, rfl⟩) ?_
          simp only [Act.put, List.setIfInBounds_toArray, List.set_cons_zero, List.set_cons_succ]
          refine wpAnyK_takeTo 18 (some 41) (undef) [] rfl rfl (by kernel_rfl) (by kernel_rfl) (by kernel_rfl) (by kernel_rfl) (fun _ _ _ h => h) hS (Or.inr ⟨rfl, rfl⟩) ?_
          simp only [Act.put, List.setIfInBounds_toArray, List.set_cons_zero, List.set_cons_succ]
          refine wpAnyK_takeTo 19 (some 42) (.bool true) [] rfl rfl (by kernel_rfl) (by kernel_rfl) (by kernel_rfl) (by kernel_rfl) (fun _ _ _ h => h) hS (Or.inl ⟨rfl, fun w1 hw1 => by go_simp⟩) ?_
          simp only [Act.put, List.setIfInBounds_toArray, List.set_cons_zero, List.set_cons_succ]
          refine wpAnyK_takeTo 20 (some 43) (.bool true) [] rfl rfl (by kernel_rfl) (by kernel_rfl) (by kernel_rfl) (by kernel_rfl) (fun _ _ _ h => h) hS (Or.inl ⟨rfl, fun w1 hw1 => by go_simp⟩) ?_
          simp only [Act.put, List.setIfInBounds_toArray, List.set_cons_zero, List.set_cons_succ]
          refine wpAnyK_takeTo 21 (some 7) (.bool true) [] rfl rfl (by kernel_rfl) (by kernel_rfl) (by kernel_rfl) (by kernel_rfl) (fun _ _ _ h => h) hS (Or.inl ⟨rfl, fun w1 hw1 => by go_simp⟩) ?_
          simp only [Act.put, List.setIfInBounds_toArray, List.set_cons_zero, List.set_cons_succ]
          refine wpAnyK_done (by kernel_rfl) ?_ _
          have HF2 := hide F2
          clear hS hSx F2 f2 FD hck
          go_wp2
          go_roundw
          case rel => exact ⟨0 + 1, by omega, by rw [hmm], rfl, by go_num, HF2.out⟩
          case measure => simp [intOf]; omega
        · obtain ⟨q, hq⟩ : ∃ q, L[j]? = some q := ⟨_, List.getElem?_eq_getElem (by omega)⟩
          obtain ⟨g', off', he', _, hqh⟩ := HV.out.get FD j q hq
          simp only [Option.some.injEq, Addr.mk.injEq, and_true] at he'
          obtain ⟨rfl, rfl⟩ := he'
          have hqp := canon_next HC.out hq HP.out
          have hSx : ∀ V, Fr W1.drew V (fun _ => False) → (V.cell? ⟨W.heap.size, 0, none⟩ = some (.int .i64 p.lo) ∧ V.cell? ⟨W.heap.size, 1, none⟩ = some (.int .i64 p.hi)) ∧ V.cell? ⟨g, off + j * 2 + 1, none⟩ = some (.int .i64 q.hi) := fun V hV => ⟨⟨(HN2.out.fr hV (fun h => h)).1, (HN2.out.fr hV (fun h => h)).2.1⟩, by rw [World.cell?_of_block (w := W1.drew) (hV.block g (World.block_lt_of_cell? W1.drew _ hqh) (fun h => h))]; exact hqh⟩
          have hS := hSx _ (Fr.refl _ _)
          have hj0 : ¬ ((j : Int) + 1 = 0) := by omega
          refine wp_region_K (fun _ => true) (fun V => (V.cell? ⟨W.heap.size, 0, none⟩ = some (.int .i64 p.lo) ∧ V.cell? ⟨W.heap.size, 1, none⟩ = some (.int .i64 p.hi)) ∧ V.cell? ⟨g, off + j * 2 + 1, none⟩ = some (.int .i64 q.hi)) (by kernel_rfl) ?_
          refine wpAnyK_takeTo 0 (some 23) (.bool true) [] rfl rfl (by kernel_rfl) (by kernel_rfl) (by kernel_rfl) (by kernel_rfl) (fun _ _ _ h => h) hS (Or.inl ⟨rfl, fun w1 hw1 => by go_simp⟩) ?_
          simp only [Act.put, List.setIfInBounds_toArray, List.set_cons_zero, List.set_cons_succ]
          refine wpAnyK_takeTo 1 (some 24) (.bool true) [] rfl rfl (by kernel_rfl) (by kernel_rfl) (by kernel_rfl) (by kernel_rfl) (fun _ _ _ h => h) hS (Or.inl ⟨rfl, fun w1 hw1 => by go_simp⟩) ?_
          simp only [Act.put, List.setIfInBounds_toArray, List.set_cons_zero, List.set_cons_succ]
          refine wpAnyK_takeTo 2 (some 25) (.agg #[.int .i64 p.lo, .int .i64 p.hi]) [] rfl rfl (by kernel_rfl) (by kernel_rfl) (by kernel_rfl) (by kernel_rfl) (fun _ _ _ h => h) hS (Or.inl ⟨rfl, fun w1 hw1 => by obtain ⟨⟨g0, g1⟩, g2⟩ := hw1; go_simp⟩) ?_
          simp only [Act.put, List.setIfInBounds_toArray, List.set_cons_zero, List.set_cons_succ]
          refine wpAnyK_one (i := 3) (by kernel_rfl) rfl rfl ?_
          refine wp_call_to (some 26) rfl 16 #[.agg #[.int .i64 p.lo, .int .i64 p.hi]] (by go_simp) (hck W1.drew) ?_
          rintro e W2 ⟨rfl, f2⟩
          have F2 : Fr w W2 (fun _ => False) := (FD.trans f2).mono (by simp)
          have hS := hSx W2 f2
          refine ⟨_, rfl, fun _ => hS, ?_⟩
          simp only [Act.put, List.setIfInBounds_toArray, List.set_cons_zero, List.set_cons_succ]
          refine wpAnyK_takeTo 4 (some 27) (.bool true) [] rfl rfl (by kernel_rfl) (by kernel_rfl) (by kernel_rfl) (by kernel_rfl) (fun _ _ _ h => h) hS (Or.inl ⟨rfl, fun w1 hw1 => by go_simp⟩) ?_
          simp only [Act.put, List.setIfInBounds_toArray, List.set_cons_zero, List.set_cons_succ]
          refine wpAnyK_takeTo 5 (some 28) (.bool true) [] rfl rfl (by kernel_rfl) (by kernel_rfl) (by kernel_rfl) (by kernel_rfl) (fun _ _ _ h => h) hS (Or.inl ⟨rfl, fun w1 hw1 => by go_simp⟩) ?_
          simp only [Act.put, List.setIfInBounds_toArray, List.set_cons_zero, List.set_cons_succ]
          refine wpAnyK_takeTo 6 (some 29) (.bool true) [] rfl rfl (by kernel_rfl) (by kernel_rfl) (by kernel_rfl) (by kernel_rfl) (fun _ _ _ h => h) hS (Or.inl ⟨rfl, fun w1 hw1 => by go_simp⟩) ?_
          simp only [Act.put, List.setIfInBounds_toArray, List.set_cons_zero, List.set_cons_succ]
          refine wpAnyK_takeTo 7 (some 30) (.int .i64 ((j : Int) + 1)) [] rfl rfl (by kernel_rfl) (by kernel_rfl) (by kernel_rfl) (by kernel_rfl) (fun _ _ _ h => h) hS (Or.inl ⟨rfl, fun w1 hw1 => by go_simp⟩) ?_
          simp only [Act.put, List.setIfInBounds_toArray, List.set_cons_zero, List.set_cons_succ]
          refine wpAnyK_takeTo 8 (some 31) (.bool false) [] rfl rfl (by kernel_rfl) (by kernel_rfl) (by kernel_rfl) (by kernel_rfl) (fun _ _ _ h => h) hS (Or.inl ⟨rfl, fun w1 hw1 => by go_simp⟩) ?_
          simp only [Act.put, List.setIfInBounds_toArray, List.set_cons_zero, List.set_cons_succ]
          refine wpAnyK_takeTo 9 (some 32) (.bool false) [] rfl rfl (by kernel_rfl) (by kernel_rfl) (by kernel_rfl) (by kernel_rfl) (fun _ _ _ h => h) hS (Or.inl ⟨rfl, fun w1 hw1 => by go_simp⟩) ?_
          simp only [Act.put, List.setIfInBounds_toArray, List.set_cons_zero, List.set_cons_succ]
          refine wpAnyK_takeTo 10 (some 33) (.slice (some ⟨g, off, none⟩) L.length c) [] rfl rfl (by kernel_rfl) (by kernel_rfl) (by kernel_rfl) (by kernel_rfl) (fun _ _ _ h => h) hS (Or.inl ⟨rfl, fun w1 hw1 => by go_simp⟩) ?_
          simp only [Act.put, List.setIfInBounds_toArray, List.set_cons_zero, List.set_cons_succ]
          refine wpAnyK_takeTo 11 (some 34) (.int .i64 ((j : Int) + 1)) [] rfl rfl (by kernel_rfl) (by kernel_rfl) (by kernel_rfl) (by kernel_rfl) (fun _ _ _ h => h) hS (Or.inl ⟨rfl, fun w1 hw1 => by go_simp⟩) ?_
          simp only [Act.put, List.setIfInBounds_toArray, List.set_cons_zero, List.set_cons_succ]
          refine wpAnyK_takeTo 12 (some 35) (.int .i64 (j : Int)) [] rfl rfl (by kernel_rfl) (by kernel_rfl) (by kernel_rfl) (by kernel_rfl) (fun _ _ _ h => h) hS (Or.inl ⟨rfl, fun w1 hw1 => by go_simp; rw [IntKind.wrap_i64]; omega⟩) ?_
          simp only [Act.put, List.setIfInBounds_toArray, List.set_cons_zero, List.set_cons_succ]
          refine wpAnyK_takeTo 13 (some 36) (.pointer (some ⟨g, off + j * 2, none⟩)) [] rfl rfl (by kernel_rfl) (by kernel_rfl) (by kernel_rfl) (by kernel_rfl) (fun _ _ _ h => h) hS (Or.inl ⟨rfl, fun w1 hw1 => by go_simp; first | done | (intro h; omega)⟩) ?_
          simp only [Act.put, List.setIfInBounds_toArray, List.set_cons_zero, List.set_cons_succ]
          refine wpAnyK_takeTo 14 (some 37) (.pointer (some ⟨g, off + j * 2 + 1, none⟩)) [] rfl rfl (by kernel_rfl) (by kernel_rfl) (by kernel_rfl) (by kernel_rfl) (fun _ _ _ h => h) hS (Or.inl ⟨rfl, fun w1 hw1 => by go_simp⟩) ?_
          simp only [Act.put, List.setIfInBounds_toArray, List.set_cons_zero, List.set_cons_succ]
          refine wpAnyK_takeTo 15 (some 38) (.int .i64 q.hi) [] rfl rfl (by kernel_rfl) (by kernel_rfl) (by kernel_rfl) (by kernel_rfl) (fun _ _ _ h => h) hS (Or.inl ⟨rfl, fun w1 hw1 => by obtain ⟨⟨g0, g1⟩, g2⟩ := hw1; go_simp⟩) ?_
          simp only [Act.put, List.setIfInBounds_toArray, List.set_cons_zero, List.set_cons_succ]
          refine wpAnyK_takeTo 16 (some 39) (.pointer (some ⟨W.heap.size, 0, none⟩)) [] rfl rfl (by kernel_rfl) (by kernel_rfl) (by kernel_rfl) (by kernel_rfl) (fun _ _ _ h => h) hS (Or.inl ⟨rfl, fun w1 hw1 => by go_simp⟩) ?_
          simp only [Act.put, List.setIfInBounds_toArray, List.set_cons_zero, List.set_cons_succ]
          refine wpAnyK_takeTo 17 (some 40) (.int .i64 p.lo) [] rfl rfl (by kernel_rfl) (by kernel_rfl) (by kernel_rfl) (by kernel_rfl) (fun _ _ _ h => h) hS (Or.inl ⟨rfl, fun w1 hw1 => by obtain ⟨⟨g0, g1⟩, g2⟩ := hw1; go_simp⟩) ?_
          simp only [Act.put, List.setIfInBounds_toArray, List.set_cons_zero, List.set_cons_succ]
          refine wpAnyK_takeTo 18 (some 41) (.bool true) [] rfl rfl (by kernel_rfl) (by kernel_rfl) (by kernel_rfl) (by kernel_rfl) (fun _ _ _ h => h) hS (Or.inl ⟨rfl, fun w1 hw1 => by go_simp⟩) ?_
          simp only [Act.put, List.setIfInBounds_toArray, List.set_cons_zero, List.set_cons_succ]
          refine wpAnyK_takeTo 19 (some 42) (.bool true) [] rfl rfl (by kernel_rfl) (by kernel_rfl) (by kernel_rfl) (by kernel_rfl) (fun _ _ _ h => h) hS (Or.inl ⟨rfl, fun w1 hw1 => by go_simp⟩) ?_
          simp only [Act.put, List.setIfInBounds_toArray, List.set_cons_zero, List.set_cons_succ]
          refine wpAnyK_takeTo 20 (some 43) (.bool true) [] rfl rfl (by kernel_rfl) (by kernel_rfl) (by kernel_rfl) (by kernel_rfl) (fun _ _ _ h => h) hS (Or.inl ⟨rfl, fun w1 hw1 => by go_simp⟩) ?_
          simp only [Act.put, List.setIfInBounds_toArray, List.set_cons_zero, List.set_cons_succ]
          refine wpAnyK_takeTo 21 (some 7) (.bool true) [] rfl rfl (by kernel_rfl) (by kernel_rfl) (by kernel_rfl) (by kernel_rfl) (fun _ _ _ h => h) hS (Or.inl ⟨rfl, fun w1 hw1 => by go_simp⟩) ?_
          simp only [Act.put, List.setIfInBounds_toArray, List.set_cons_zero, List.set_cons_succ]
          refine wpAnyK_done (by kernel_rfl) ?_ _
          have HF2 := hide F2
          clear hS hSx F2 f2 FD hck
          go_wp2
          go_roundw
          case rel => exact ⟨j + 1 + 1, by omega, by rw [hmm], rfl, by go_num, HF2.out⟩
          case measure => simp [intOf]; omega
      · have hfd' : memB (L.take k) t = false := by simpa using hfd
        rw [hfd']
        have hmm : memB (L.take (k + 1)) t = hasB p t := by rw [HM.out, hfd']; rfl
        go_wp2_with fail
        generalize W.alloc (.cells #[.int .i64 p.lo, .int .i64 p.hi] 23) = W0 at *
        refine (hhs W0).mono ?_
        rintro e W1 ⟨rfl, f1⟩
        have HF1 := hide ((HFA.out.trans f1).mono (Y := fun _ => False) (by simp))
        have HN1 := hide (HNA.out.fr f1 (fun h => h))
        clear f1 HFA HNA hhs
        go_wp2_with fail
        have HN2 := hide (HN1.out.fr (Fr.drew W1 (fun _ => False)) (fun h => h))
        have FD : Fr w W1.drew (fun _ => False) := (HF1.out.trans (Fr.drew W1 (fun _ => False))).mono (by simp)
        rcases k with _ | j
        · have hSx : ∀ V, Fr W1.drew V (fun _ => False) → V.cell? ⟨W.heap.size, 0, none⟩ = some (.int .i64 p.lo) ∧ V.cell? ⟨W.heap.size, 1, none⟩ = some (.int .i64 p.hi) := fun V hV => ⟨(HN2.out.fr hV (fun h => h)).1, (HN2.out.fr hV (fun h => h)).2.1⟩
          have hS := hSx _ (Fr.refl _ _)
          refine wp_region_K (fun _ => true) (fun V => V.cell? ⟨W.heap.size, 0, none⟩ = some (.int .i64 p.lo) ∧ V.cell? ⟨W.heap.size, 1, none⟩ = some (.int .i64 p.hi)) (by kernel_rfl) ?_
          refine wpAnyK_takeTo 0 (some 23) (.bool true) [] rfl rfl (by kernel_rfl) (by kernel_rfl) (by kernel_rfl) (by kernel_rfl) (fun _ _ _ h => h) hS (Or.inl ⟨rfl, fun w1 hw1 => by go_simp⟩) ?_
          simp only [Act.put, List.setIfInBounds_toArray, List.set_cons_zero, List.set_cons_succ]
          refine wpAnyK_takeTo 1 (some 24) (.bool true) [] rfl rfl (by kernel_rfl) (by kernel_rfl) (by kernel_rfl) (by kernel_rfl) (fun _ _ _ h => h) hS (Or.inl ⟨rfl, fun w1 hw1 => by go_simp⟩) ?_
          simp only [Act.put, List.setIfInBounds_toArray, List.set_cons_zero, List.set_cons_succ]
          refine wpAnyK_takeTo 2 (some 25) (.agg #[.int .i64 p.lo, .int .i64 p.hi]) [] rfl rfl (by kernel_rfl) (by kernel_rfl) (by kernel_rfl) (by kernel_rfl) (fun _ _ _ h => h) hS (Or.inl ⟨rfl, fun w1 hw1 => by obtain ⟨g0, g1⟩ := hw1; go_simp⟩) ?_
          simp only [Act.put, List.setIfInBounds_toArray, List.set_cons_zero, List.set_cons_succ]
          refine wpAnyK_one (i := 3) (by kernel_rfl) rfl rfl ?_
          refine wp_call_to (some 26) rfl 16 #[.agg #[.int .i64 p.lo, .int .i64 p.hi]] (by go_simp) (hck W1.drew) ?_
          rintro e W2 ⟨rfl, f2⟩
          have F2 : Fr w W2 (fun _ => False) := (FD.trans f2).mono (by simp)
          have hS := hSx W2 f2
          refine ⟨_, rfl, fun _ => hS, ?_⟩
          simp only [Act.put, List.setIfInBounds_toArray, List.set_cons_zero, List.set_cons_succ]
          refine wpAnyK_takeTo 4 (some 27) (.bool true) [] rfl rfl (by kernel_rfl) (by kernel_rfl) (by kernel_rfl) (by kernel_rfl) (fun _ _ _ h => h) hS (Or.inl ⟨rfl, fun w1 hw1 => by go_simp⟩) ?_
          simp only [Act.put, List.setIfInBounds_toArray, List.set_cons_zero, List.set_cons_succ]
          refine wpAnyK_takeTo 5 (some 28) (.bool true) [] rfl rfl (by kernel_rfl) (by kernel_rfl) (by kernel_rfl) (by kernel_rfl) (fun _ _ _ h => h) hS (Or.inl ⟨rfl, fun w1 hw1 => by go_simp⟩) ?_
          simp only [Act.put, List.setIfInBounds_toArray, List.set_cons_zero, List.set_cons_succ]
          refine wpAnyK_takeTo 6 (some 29) (.bool true) [] rfl rfl (by kernel_rfl) (by kernel_rfl) (by kernel_rfl) (by kernel_rfl) (fun _ _ _ h => h) hS (Or.inl ⟨rfl, fun w1 hw1 => by go_simp⟩) ?_
          simp only [Act.put, List.setIfInBounds_toArray, List.set_cons_zero, List.set_cons_succ]
          refine wpAnyK_takeTo 7 (some 30) (.int .i64 0) [] rfl rfl (by kernel_rfl) (by kernel_rfl) (by kernel_rfl) (by kernel_rfl) (fun _ _ _ h => h) hS (Or.inl ⟨rfl, fun w1 hw1 => by go_simp⟩) ?_
          simp only [Act.put, List.setIfInBounds_toArray, List.set_cons_zero, List.set_cons_succ]
          refine wpAnyK_takeTo 8 (some 31) (.bool true) [] rfl rfl (by kernel_rfl) (by kernel_rfl) (by kernel_rfl) (by kernel_rfl) (fun _ _ _ h => h) hS (Or.inl ⟨rfl, fun w1 hw1 => by go_simp⟩) ?_
          simp only [Act.put, List.setIfInBounds_toArray, List.set_cons_zero, List.set_cons_succ]
          refine wpAnyK_takeTo 9 (some 32) (.bool true) [] rfl rfl (by kernel_rfl) (by kernel_rfl) (by kernel_rfl) (by kernel_rfl) (fun _ _ _ h => h) hS (Or.inl ⟨rfl, fun w1 hw1 => by go_simp⟩) ?_
          simp only [Act.put, List.setIfInBounds_toArray, List.set_cons_zero, List.set_cons_succ]
          refine wpAnyK_takeTo 10 (some 33) (undef) [] rfl rfl (by kernel_rfl) (by kernel_rfl) (by kernel_rfl) (by kernel_rfl) (fun _ _ _ h => h) hS (Or.inr ⟨rfl, rfl⟩) ?_
          simp only [Act.put, List.setIfInBounds_toArray, List.set_cons_zero, List.set_cons_succ]
          refine wpAnyK_takeTo 11 (some 34) (undef) [] rfl rfl (by kernel_rfl) (by kernel_rfl) (by kernel_rfl) (by kernel_rfl) (fun _ _ _ h => h) hS (Or.inr ⟨rfl, rfl⟩) ?_
          simp only [Act.put, List.setIfInBounds_toArray, List.set_cons_zero, List.set_cons_succ]
          refine wpAnyK_takeTo 12 (some 35) (undef) [] rfl rfl (by kernel_rfl) (by kernel_rfl) (by kernel_rfl) (by kernel_rfl) (fun _ _ _ h => h) hS (Or.inr ⟨rfl, rfl⟩) ?_
          simp only [Act.put, List.setIfInBounds_toArray, List.set_cons_zero, List.set_cons_succ]
          refine wpAnyK_takeTo 13 (some 36) (undef) [] rfl rfl (by kernel_rfl) (by kernel_rfl) (by kernel_rfl) (by kernel_rfl) (fun _ _ _ h => h) hS (Or.inr ⟨rfl, rfl⟩) ?_
          simp only [Act.put, List.setIfInBounds_toArray, List.set_cons_zero, List.set_cons_succ]
          refine wpAnyK_takeTo 14 (some 37) (undef) [] rfl rfl (by kernel_rfl) (by kernel_rfl) (by kernel_rfl) (by kernel_rfl) (fun _ _ _ h => h) hS (Or.inr ⟨rfl, rfl⟩) ?_
          simp only [Act.put, List.setIfInBounds_toArray, List.set_cons_zero, List.set_cons_succ]
          refine wpAnyK_takeTo 15 (some 38) (undef) [] rfl rfl (by kernel_rfl) (by kernel_rfl) (by kernel_rfl) (by kernel_rfl) (fun _ _ _ h => h) hS (Or.inr ⟨rfl, rfl⟩) ?_
          simp only [Act.put, List.setIfInBounds_toArray, List.set_cons_zero, List.set_cons_succ]
          refine wpAnyK_takeTo 16 (some 39) (undef) [] rfl rfl (by kernel_rfl) (by kernel_rfl) (by kernel_rfl) (by kernel_rfl) (fun _ _ _ h => h) hS (Or.inr ⟨rfl, rfl⟩) ?_
          simp only [Act.put, List.setIfInBounds_toArray, List.set_cons_zero, List.set_cons_succ]
          refine wpAnyK_takeTo 17 (some 40) (undef) [] rfl rfl (by kernel_rfl) (by kernel_rfl) (by kernel_rfl) (by kernel_rfl) (fun _ _ _ h => h) hS (Or.inr ⟨rfl, rfl⟩) ?_
          simp only [Act.put, List.setIfInBounds_toArray, List.set_cons_zero, List.set_cons_succ]
          refine wpAnyK_takeTo 18 (some 41) (undef) [] rfl rfl (by kernel_rfl) (by kernel_rfl) (by kernel_rfl) (by kernel_rfl) (fun _ _ _ h => h) hS (Or.inr ⟨rfl, rfl⟩) ?_
          simp only [Act.put, List.setIfInBounds_toArray, List.set_cons_zero, List.set_cons_succ]
          refine wpAnyK_takeTo 19 (some 42) (.bool true) [] rfl rfl (by kernel_rfl) (by kernel_rfl) (by kernel_rfl) (by kernel_rfl) (fun _ _ _ h => h) hS (Or.inl ⟨rfl, fun w1 hw1 => by go_simp⟩) ?_
          simp only [Act.put, List.setIfInBounds_toArray, List.set_cons_zero, List.set_cons_succ]
          refine wpAnyK_takeTo 20 (some 43) (.bool true) [] rfl rfl (by kernel_rfl) (by kernel_rfl) (by kernel_rfl) (by kernel_rfl) (fun _ _ _ h => h) hS (Or.inl ⟨rfl, fun w1 hw1 => by go_simp⟩) ?_
          simp only [Act.put, List.setIfInBounds_toArray, List.set_cons_zero, List.set_cons_succ]
          refine wpAnyK_takeTo 21 (some 7) (.bool true) [] rfl rfl (by kernel_rfl) (by kernel_rfl) (by kernel_rfl) (by kernel_rfl) (fun _ _ _ h => h) hS (Or.inl ⟨rfl, fun w1 hw1 => by go_simp⟩) ?_
          simp only [Act.put, List.setIfInBounds_toArray, List.set_cons_zero, List.set_cons_succ]
          refine wpAnyK_done (by kernel_rfl) ?_ _
          have HF2 := hide F2
          clear hS hSx F2 f2 FD hck
          go_wp2
          go_roundw
          case rel => exact ⟨0 + 1, by omega, by rw [hmm], rfl, by go_num, HF2.out⟩
          case measure => simp [intOf]; omega
        · obtain ⟨q, hq⟩ : ∃ q, L[j]? = some q := ⟨_, List.getElem?_eq_getElem (by omega)⟩
          obtain ⟨g', off', he', _, hqh⟩ := HV.out.get FD j q hq
          simp only [Option.some.injEq, Addr.mk.injEq, and_true] at he'
          obtain ⟨rfl, rfl⟩ := he'
          have hqp := canon_next HC.out hq HP.out
          have hSx : ∀ V, Fr W1.drew V (fun _ => False) → (V.cell? ⟨W.heap.size, 0, none⟩ = some (.int .i64 p.lo) ∧ V.cell? ⟨W.heap.size, 1, none⟩ = some (.int .i64 p.hi)) ∧ V.cell? ⟨g, off + j * 2 + 1, none⟩ = some (.int .i64 q.hi) := fun V hV => ⟨⟨(HN2.out.fr hV (fun h => h)).1, (HN2.out.fr hV (fun h => h)).2.1⟩, by rw [World.cell?_of_block (w := W1.drew) (hV.block g (World.block_lt_of_cell? W1.drew _ hqh) (fun h => h))]; exact hqh⟩
          have hS := hSx _ (Fr.refl _ _)
          have hj0 : ¬ ((j : Int) + 1 = 0) := by omega
          refine wp_region_K (fun _ => true) (fun V => (V.cell? ⟨W.heap.size, 0, none⟩ = some (.int .i64 p.lo) ∧ V.cell? ⟨W.heap.size, 1, none⟩ = some (.int .i64 p.hi)) ∧ V.cell? ⟨g, off + j * 2 + 1, none⟩ = some (.int .i64 q.hi)) (by kernel_rfl) ?_
          refine wpAnyK_takeTo 0 (some 23) (.bool true) [] rfl rfl (by kernel_rfl) (by kernel_rfl) (by kernel_rfl) (by kernel_rfl) (fun _ _ _ h => h) hS (Or.inl ⟨rfl, fun w1 hw1 => by go_simp⟩) ?_
          simp only [Act.put, List.setIfInBounds_toArray, List.set_cons_zero, List.set_cons_succ]
          refine wpAnyK_takeTo 1 (some 24) (.bool true) [] rfl rfl (by kernel_rfl) (by kernel_rfl) (by kernel_rfl) (by kernel_rfl) (fun _ _ _ h => h) hS (Or.inl ⟨rfl, fun w1 hw1 => by go_simp⟩) ?_
          simp only [Act.put, List.setIfInBounds_toArray, List.set_cons_zero, List.set_cons_succ]
          refine wpAnyK_takeTo 2 (some 25) (.agg #[.int .i64 p.lo, .int .i64 p.hi]) [] rfl rfl (by kernel_rfl) (by kernel_rfl) (by kernel_rfl) (by kernel_rfl) (fun _ _ _ h => h) hS (Or.inl ⟨rfl, fun w1 hw1 => by obtain ⟨⟨g0, g1⟩, g2⟩ := hw1; go_simp⟩) ?_
          simp only [Act.put, List.setIfInBounds_toArray, List.set_cons_zero, List.set_cons_succ]
          refine wpAnyK_one (i := 3) (by kernel_rfl) rfl rfl ?_
          refine wp_call_to (some 26) rfl 16 #[.agg #[.int .i64 p.lo, .int .i64 p.hi]] (by go_simp) (hck W1.drew) ?_
          rintro e W2 ⟨rfl, f2⟩
          have F2 : Fr w W2 (fun _ => False) := (FD.trans f2).mono (by simp)
          have hS := hSx W2 f2
          refine ⟨_, rfl, fun _ => hS, ?_⟩
          simp only [Act.put, List.setIfInBounds_toArray, List.set_cons_zero, List.set_cons_succ]
          refine wpAnyK_takeTo 4 (some 27) (.bool true) [] rfl rfl (by kernel_rfl) (by kernel_rfl) (by kernel_rfl) (by kernel_rfl) (fun _ _ _ h => h) hS (Or.inl ⟨rfl, fun w1 hw1 => by go_simp⟩) ?_
          simp only [Act.put, List.setIfInBounds_toArray, List.set_cons_zero, List.set_cons_succ]
          refine wpAnyK_takeTo 5 (some 28) (.bool true) [] rfl rfl (by kernel_rfl) (by kernel_rfl) (by kernel_rfl) (by kernel_rfl) (fun _ _ _ h => h) hS (Or.inl ⟨rfl, fun w1 hw1 => by go_simp⟩) ?_
          simp only [Act.put, List.setIfInBounds_toArray, List.set_cons_zero, List.set_cons_succ]
          refine wpAnyK_takeTo 6 (some 29) (.bool true) [] rfl rfl (by kernel_rfl) (by kernel_rfl) (by kernel_rfl) (by kernel_rfl) (fun _ _ _ h => h) hS (Or.inl ⟨rfl, fun w1 hw1 => by go_simp⟩) ?_
          simp only [Act.put, List.setIfInBounds_toArray, List.set_cons_zero, List.set_cons_succ]
          refine wpAnyK_takeTo 7 (some 30) (.int .i64 ((j : Int) + 1)) [] rfl rfl (by kernel_rfl) (by kernel_rfl) (by kernel_rfl) (by kernel_rfl) (fun _ _ _ h => h) hS (Or.inl ⟨rfl, fun w1 hw1 => by go_simp⟩) ?_
          simp only [Act.put, List.setIfInBounds_toArray, List.set_cons_zero, List.set_cons_succ]
          refine wpAnyK_takeTo 8 (some 31) (.bool false) [] rfl rfl (by kernel_rfl) (by kernel_rfl) (by kernel_rfl) (by kernel_rfl) (fun _ _ _ h => h) hS (Or.inl ⟨rfl, fun w1 hw1 => by go_simp⟩) ?_
          simp only [Act.put, List.setIfInBounds_toArray, List.set_cons_zero, List.set_cons_succ]
          refine wpAnyK_takeTo 9 (some 32) (.bool false) [] rfl rfl (by kernel_rfl) (by kernel_rfl) (by kernel_rfl) (by kernel_rfl) (fun _ _ _ h => h) hS (Or.inl ⟨rfl, fun w1 hw1 => by go_simp⟩) ?_
          simp only [Act.put, List.setIfInBounds_toArray, List.set_cons_zero, List.set_cons_succ]
          refine wpAnyK_takeTo 10 (some 33) (.slice (some ⟨g, off, none⟩) L.length c) [] rfl rfl (by kernel_rfl) (by kernel_rfl) (by kernel_rfl) (by kernel_rfl) (fun _ _ _ h => h) hS (Or.inl ⟨rfl, fun w1 hw1 => by go_simp⟩) ?_
          simp only [Act.put, List.setIfInBounds_toArray, List.set_cons_zero, List.set_cons_succ]
          refine wpAnyK_takeTo 11 (some 34) (.int .i64 ((j : Int) + 1)) [] rfl rfl (by kernel_rfl) (by kernel_rfl) (by kernel_rfl) (by kernel_rfl) (fun _ _ _ h => h) hS (Or.inl ⟨rfl, fun w1 hw1 => by go_simp⟩) ?_
          simp only [Act.put, List.setIfInBounds_toArray, List.set_cons_zero, List.set_cons_succ]
          refine wpAnyK_takeTo 12 (some 35) (.int .i64 (j : Int)) [] rfl rfl (by kernel_rfl) (by kernel_rfl) (by kernel_rfl) (by kernel_rfl) (fun _ _ _ h => h) hS (Or.inl ⟨rfl, fun w1 hw1 => by go_simp; rw [IntKind.wrap_i64]; omega⟩) ?_
          simp only [Act.put, List.setIfInBounds_toArray, List.set_cons_zero, List.set_cons_succ]
          refine wpAnyK_takeTo 13 (some 36) (.pointer (some ⟨g, off + j * 2, none⟩)) [] rfl rfl (by kernel_rfl) (by kernel_rfl) (by kernel_rfl) (by kernel_rfl) (fun _ _ _ h => h) hS (Or.inl ⟨rfl, fun w1 hw1 => by go_simp; first | done | (intro h; omega)⟩) ?_
          simp only [Act.put, List.setIfInBounds_toArray, List.set_cons_zero, List.set_cons_succ]
          refine wpAnyK_takeTo 14 (some 37) (.pointer (some ⟨g, off + j * 2 + 1, none⟩)) [] rfl rfl (by kernel_rfl) (by kernel_rfl) (by kernel_rfl) (by kernel_rfl) (fun _ _ _ h => h) hS (Or.inl ⟨rfl, fun w1 hw1 => by go_simp⟩) ?_
          simp only [Act.put, List.setIfInBounds_toArray, List.set_cons_zero, List.set_cons_succ]
          refine wpAnyK_takeTo 15 (some 38) (.int .i64 q.hi) [] rfl rfl (by kernel_rfl) (by kernel_rfl) (by kernel_rfl) (by kernel_rfl) (fun _ _ _ h => h) hS (Or.inl ⟨rfl, fun w1 hw1 => by obtain ⟨⟨g0, g1⟩, g2⟩ := hw1; go_simp⟩) ?_
          simp only [Act.put, List.setIfInBounds_toArray, List.set_cons_zero, List.set_cons_succ]
          refine wpAnyK_takeTo 16 (some 39) (.pointer (some ⟨W.heap.size, 0, none⟩)) [] rfl rfl (by kernel_rfl) (by kernel_rfl) (by kernel_rfl) (by kernel_rfl) (fun _ _ _ h => h) hS (Or.inl ⟨rfl, fun w1 hw1 => by go_simp⟩) ?_
          simp only [Act.put, List.setIfInBounds_toArray, List.set_cons_zero, List.set_cons_succ]
          refine wpAnyK_takeTo 17 (some 40) (.int .i64 p.lo) [] rfl rfl (by kernel_rfl) (by kernel_rfl) (by kernel_rfl) (by kernel_rfl) (fun _ _ _ h => h) hS (Or.inl ⟨rfl, fun w1 hw1 => by obtain ⟨⟨g0, g1⟩, g2⟩ := hw1; go_simp⟩) ?_
          simp only [Act.put, List.setIfInBounds_toArray, List.set_cons_zero, List.set_cons_succ]
          refine wpAnyK_takeTo 18 (some 41) (.bool true) [] rfl rfl (by kernel_rfl) (by kernel_rfl) (by kernel_rfl) (by kernel_rfl) (fun _ _ _ h => h) hS (Or.inl ⟨rfl, fun w1 hw1 => by go_simp⟩) ?_
          simp only [Act.put, List.setIfInBounds_toArray, List.set_cons_zero, List.set_cons_succ]
          refine wpAnyK_takeTo 19 (some 42) (.bool true) [] rfl rfl (by kernel_rfl) (by kernel_rfl) (by kernel_rfl) (by kernel_rfl) (fun _ _ _ h => h) hS (Or.inl ⟨rfl, fun w1 hw1 => by go_simp⟩) ?_
          simp only [Act.put, List.setIfInBounds_toArray, List.set_cons_zero, List.set_cons_succ]
          refine wpAnyK_takeTo 20 (some 43) (.bool true) [] rfl rfl (by kernel_rfl) (by kernel_rfl) (by kernel_rfl) (by kernel_rfl) (fun _ _ _ h => h) hS (Or.inl ⟨rfl, fun w1 hw1 => by go_simp⟩) ?_
          simp only [Act.put, List.setIfInBounds_toArray, List.set_cons_zero, List.set_cons_succ]
          refine wpAnyK_takeTo 21 (some 7) (.bool true) [] rfl rfl (by kernel_rfl) (by kernel_rfl) (by kernel_rfl) (by kernel_rfl) (fun _ _ _ h => h) hS (Or.inl ⟨rfl, fun w1 hw1 => by go_simp⟩) ?_
          simp only [Act.put, List.setIfInBounds_toArray, List.set_cons_zero, List.set_cons_succ]
          refine wpAnyK_done (by kernel_rfl) ?_ _
          have HF2 := hide F2
          clear hS hSx F2 f2 FD hck
          go_wp2
          go_roundw
          case rel => exact ⟨j + 1 + 1, by omega, by rw [hmm], rfl, by go_num, HF2.out⟩
          case measure => simp [intOf]; omega
    · obtain rfl : k = L.length := by omega
      rw [List.take_length]
      go_wp2
      go_ret2
      exact ⟨rfl, HF.out⟩
end Go.Proofs.Ytaikhmedehbfbaa
