/- The walk of Union. -/
import Derived.Test.YtbdpdobaacbkkaaDoorJ
namespace Go.Proofs.YtbdpdobaacbkkaaDoor
open Go.RowKit
set_option linter.unusedVariables false

theorem in_filter (L : List Per) (t : Int) : Mem (L.filter rightB) t ↔ In L t := by
  constructor
  · rintro ⟨p, hp, h⟩
    rw [List.mem_filter] at hp
    exact ⟨p, hp.1, (rightB_iff p).1 hp.2, h⟩
  · rintro ⟨p, hp, h1, h⟩
    exact ⟨p, List.mem_filter.2 ⟨hp, (rightB_iff p).2 h1⟩, h⟩
theorem mem_perm {S T : List Per} (h : T.Perm S) (t : Int) : Mem T t ↔ Mem S t := by
  constructor
  · rintro ⟨p, hp, h1⟩; exact ⟨p, h.mem_iff.1 hp, h1⟩
  · rintro ⟨p, hp, h1⟩; exact ⟨p, h.mem_iff.2 hp, h1⟩
/-- What Union makes of periods. -/
structure IsUnion (L O : List Per) : Prop where
  canon : Canon O
  mem : ∀ t, Mem O t ↔ In L t
  right : ∀ q ∈ O, Right q
  len : O.length ≤ L.length
  lo : ∀ q ∈ O, ∃ p ∈ L, Right p ∧ q.lo = p.lo
  hi : ∀ q ∈ O, ∃ p ∈ L, Right p ∧ q.hi = p.hi

theorem isUnion_of {L T O : List Per} (hp : T.Perm (L.filter rightB)) (hm : Made T O) : IsUnion L O := by
  refine ⟨hm.canon, fun t => by rw [hm.mem, mem_perm hp, in_filter], fun q hq => ?_, ?_, fun q hq => ?_, fun q hq => ?_⟩
  · obtain ⟨x, hx, ex⟩ := hm.lo q hq
    obtain ⟨y, hy, ey⟩ := hm.hi q hq
    have rx := (rightB_iff x).1 (List.mem_filter.1 (hp.mem_iff.1 hx)).2
    have ry := (rightB_iff y).1 (List.mem_filter.1 (hp.mem_iff.1 hy)).2
    have hlt : q.lo < q.hi := by
      have hc := hm.canon
      obtain ⟨A, B, rfl⟩ := List.append_of_mem hq
      clear hm hq hp
      induction A with
      | nil => exact hc.head
      | cons a A ih => exact ih hc.tail
    exact ⟨by rw [ex]; exact rx.1, hlt, by rw [ey]; exact ry.2.2⟩
  · have h1 := hm.len
    have h2 := hp.length_eq
    have h3 := List.length_filter_le rightB L
    omega
  · obtain ⟨x, hx, ex⟩ := hm.lo q hq
    have h := List.mem_filter.1 (hp.mem_iff.1 hx)
    exact ⟨x, h.1, (rightB_iff x).1 h.2, ex⟩
  · obtain ⟨x, hx, ex⟩ := hm.hi q hq
    have h := List.mem_filter.1 (hp.mem_iff.1 hx)
    exact ⟨x, h.1, (rightB_iff x).1 h.2, ex⟩
theorem take_snoc (T : List Per) (k : Nat) (p : Per) (h : T[k]? = some p) : T.take (k + 1) = T.take k ++ [p] := by
  rw [List.take_add_one, h]; rfl
theorem sorted_before {T : List Per} (hs : T.Pairwise (fun x y => x.lo ≤ y.lo)) (k : Nat) (p : Per) (h : T[k]? = some p) : ∀ x ∈ T.take k, x.lo ≤ p.lo := by
  intro x hx
  obtain ⟨hk, rfl⟩ := List.getElem?_eq_some_iff.1 h
  obtain ⟨i, hi, rfl⟩ := List.mem_iff_getElem.1 hx
  rw [List.getElem_take]
  have : i < k := by have := hi; simp at this; omega
  exact List.pairwise_iff_getElem.1 hs i k (by omega) hk this

set_option maxRecDepth 100000 in
set_option maxHeartbeats 2000000 in
theorem union_any (a : Option Addr) (c : Nat) (L : List Per) (w : World) (hv : Pers w a L) (hL : L.length ≤ 8796093022000) :
    Calls Tryd.prog 16 #[.slice a L.length c] w fun e w' => ∃ v O, e = .returned v ∧ OwnP w' v O ∧ IsUnion L O ∧ Fr w w' (fun _ => False) ∧ ∀ q, v.ownBlock = some q → w.heap.size ≤ q := by
  have HV := hide hv
  clear hv
  go_enter Tryd.func16, Tryd.ntmps16
  go_wp2_with fail
  refine (periodsOf_any a c L _ HV.out hL).mono ?_
  rintro e V1 ⟨v1, rfl, ho1, hf1, hX1⟩
  have HO1 := hide ho1
  have HF1 := hide hf1
  have HX1 := hide hX1
  clear ho1 hf1 hX1 HV
  go_wp2_with fail
  refine (sortP_any v1 _ V1 HO1.out (by have := List.length_filter_le rightB L; omega)).mono ?_
  rintro e V2 ⟨rfl, T, hT, hsort, ho2, hf2⟩
  have hlenT : T.length ≤ L.length := by rw [hT.length_eq]; exact List.length_filter_le rightB L
  have hright : ∀ p ∈ T, Right p := fun p hp => (rightB_iff p).1 (List.mem_filter.1 (hT.mem_iff.1 hp)).2
  have HR := hide hright
  have HT := hide hT
  have HS := hide hsort
  have HO2 := hide ho2
  have HF2 := hide ((HF1.out.trans hf2).mono (Y := fun _ => False) (fun q hq h => by rcases h with h | h; exact h; (have := HX1.out q h; omega)))
  obtain ⟨a2, c2, hv2, hn2, _⟩ := ho2.shape
  subst hv2
  clear hT hsort ho2 hf2 hright HO1 HF1 HX1
  go_wp2_with fail
  go_loopw [4, 14] (fun x i wr => ∃ (k : Nat) (O : List Per), k ≤ T.length ∧ i = .int .i64 k ∧ OwnP wr x O ∧ Made (T.take k) O ∧ Fr V2 wr (fun _ => False) ∧ ∀ q, x.ownBlock = some q → V2.heap.size ≤ q) (fun _ i _ => T.length - (intOf i).toNat)
  case atStart => exact ⟨0, [], by omega, rfl, OwnP.nil _, by simpa using Made.nil, Fr.refl _ _, by simp [Value.ownBlock]⟩
  case round =>
    rename World => W
    obtain ⟨k, O, hk, rfl, ho, hm, hf, hX⟩ := hrel
    have HO := hide ho
    have HM := hide hm
    have HF := hide hf
    have HX := hide hX
    have hlenO := hm.len
    rw [List.length_take] at hlenO
    clear ho hm hf hX
    by_cases hlt : k < T.length
    · obtain ⟨p, hp⟩ : ∃ p, T[k]? = some p := ⟨_, List.getElem?_eq_getElem hlt⟩
      obtain ⟨g, off, rfl, c0, c1⟩ := HO2.out.pers.get HF.out k p hp
      have HP := hide hp
      have hpr := HR.out p (List.mem_of_getElem? hp)
      have HPR := hide hpr
      have FA := Fr.alloc W (.cells #[.int .i64 p.lo, .int .i64 p.hi] 23) (fun _ => False)
      have HNA := hide (two_of (heap_alloc_new W (.cells #[.int .i64 p.lo, .int .i64 p.hi] 23)))
      have HFA := hide ((HF.out.trans FA).mono (Y := fun _ => False) (by simp))
      have HOA := hide (HO.out.fr FA (fun _ _ h => h))
      clear hp hpr FA
      rcases List.eq_nil_or_concat O with rfl | ⟨I, q, rfl⟩
      · obtain ⟨xa, xc, hxe, _⟩ := HO.out.shape
        subst hxe
        simp only [List.length_nil] at *
        go_wp2_with fail
        generalize hW1 : W.alloc (.cells #[.int .i64 p.lo, .int .i64 p.hi] 23) = W1 at *
        refine wp_region_K (fun _ => true) (fun _ => True) (by kernel_rfl) ?_
        refine wpAnyK_takeTo 0 (some 21) (.int .i64 (-1)) [] rfl rfl (by kernel_rfl) (by kernel_rfl) (by kernel_rfl) (by kernel_rfl) (fun _ _ _ h => h) trivial (Or.inl ⟨rfl, fun w1 hw1 => by go_simp⟩) ?_
        simp only [Act.put, List.setIfInBounds_toArray, List.set_cons_zero, List.set_cons_succ]
        refine wpAnyK_takeTo 1 (some 22) (.bool false) [] rfl rfl (by kernel_rfl) (by kernel_rfl) (by kernel_rfl) (by kernel_rfl) (fun _ _ _ h => h) trivial (Or.inl ⟨rfl, fun w1 hw1 => by go_simp⟩) ?_
        simp only [Act.put, List.setIfInBounds_toArray, List.set_cons_zero, List.set_cons_succ]
        refine wpAnyK_takeTo 2 (some 23) (.bool false) [] rfl rfl (by kernel_rfl) (by kernel_rfl) (by kernel_rfl) (by kernel_rfl) (fun _ _ _ h => h) trivial (Or.inl ⟨rfl, fun w1 hw1 => by go_simp⟩) ?_
        simp only [Act.put, List.setIfInBounds_toArray, List.set_cons_zero, List.set_cons_succ]
        refine wpAnyK_takeTo 3 (some 24) (undef) [] rfl rfl (by kernel_rfl) (by kernel_rfl) (by kernel_rfl) (by kernel_rfl) (fun _ _ _ h => h) trivial (Or.inr ⟨rfl, rfl⟩) ?_
        simp only [Act.put, List.setIfInBounds_toArray, List.set_cons_zero, List.set_cons_succ]
        refine wpAnyK_takeTo 4 (some 25) (undef) [] rfl rfl (by kernel_rfl) (by kernel_rfl) (by kernel_rfl) (by kernel_rfl) (fun _ _ _ h => h) trivial (Or.inr ⟨rfl, rfl⟩) ?_
        simp only [Act.put, List.setIfInBounds_toArray, List.set_cons_zero, List.set_cons_succ]
        refine wpAnyK_takeTo 5 (some 26) (undef) [] rfl rfl (by kernel_rfl) (by kernel_rfl) (by kernel_rfl) (by kernel_rfl) (fun _ _ _ h => h) trivial (Or.inr ⟨rfl, rfl⟩) ?_
        simp only [Act.put, List.setIfInBounds_toArray, List.set_cons_zero, List.set_cons_succ]
        refine wpAnyK_takeTo 6 (some 27) (undef) [] rfl rfl (by kernel_rfl) (by kernel_rfl) (by kernel_rfl) (by kernel_rfl) (fun _ _ _ h => h) trivial (Or.inr ⟨rfl, rfl⟩) ?_
        simp only [Act.put, List.setIfInBounds_toArray, List.set_cons_zero, List.set_cons_succ]
        refine wpAnyK_takeTo 7 (some 28) (undef) [] rfl rfl (by kernel_rfl) (by kernel_rfl) (by kernel_rfl) (by kernel_rfl) (fun _ _ _ h => h) trivial (Or.inr ⟨rfl, rfl⟩) ?_
        simp only [Act.put, List.setIfInBounds_toArray, List.set_cons_zero, List.set_cons_succ]
        refine wpAnyK_takeTo 8 (some 29) (undef) [] rfl rfl (by kernel_rfl) (by kernel_rfl) (by kernel_rfl) (by kernel_rfl) (fun _ _ _ h => h) trivial (Or.inr ⟨rfl, rfl⟩) ?_
        simp only [Act.put, List.setIfInBounds_toArray, List.set_cons_zero, List.set_cons_succ]
        refine wpAnyK_takeTo 9 (some 30) (undef) [] rfl rfl (by kernel_rfl) (by kernel_rfl) (by kernel_rfl) (by kernel_rfl) (fun _ _ _ h => h) trivial (Or.inr ⟨rfl, rfl⟩) ?_
        simp only [Act.put, List.setIfInBounds_toArray, List.set_cons_zero, List.set_cons_succ]
        refine wpAnyK_takeTo 10 (some 31) (undef) [] rfl rfl (by kernel_rfl) (by kernel_rfl) (by kernel_rfl) (by kernel_rfl) (fun _ _ _ h => h) trivial (Or.inr ⟨rfl, rfl⟩) ?_
        simp only [Act.put, List.setIfInBounds_toArray, List.set_cons_zero, List.set_cons_succ]
        refine wpAnyK_takeTo 11 (some 32) (.bool false) [] rfl rfl (by kernel_rfl) (by kernel_rfl) (by kernel_rfl) (by kernel_rfl) (fun _ _ _ h => h) trivial (Or.inl ⟨rfl, fun w1 hw1 => by go_simp⟩) ?_
        simp only [Act.put, List.setIfInBounds_toArray, List.set_cons_zero, List.set_cons_succ]
        refine wpAnyK_done (by kernel_rfl) ?_ _
        have HN1 := hide (HNA.out.fr (Fr.drew W1 (fun _ => False)) (fun h => h))
        have HO1 := hide (HOA.out.fr (Fr.drew W1 (fun _ => False)) (fun _ _ h => h))
        have HF1 := hide ((HFA.out.trans (Fr.drew W1 (fun _ => False))).mono (Y := fun _ => False) (by simp))
        have hs1 : W.heap.size ≤ W1.drew.heap.size := by rw [← hW1]; simp [World.drew]
        clear HNA HOA HFA hW1
        generalize W1.drew = W2 at *
        have d0 := HN1.out.1
        have d1 := HN1.out.2.1
        go_wp2_with (refine wpList_pushP rfl (.tmp 45) (.tmp 47) rfl (.slice xa 0 xc) [] rfl HO1.out p _ rfl rfl (by simp) ?_; intro v4 W4 ho4 hf4 hr4; have HO4 := hide ho4; have HF4 := hide hf4; have HR4 := hide hr4; clear ho4 hf4 hr4)
        go_roundw
        case rel =>
          refine ⟨k + 1, [p], by omega, by go_num, HO4.out, ?_, (HF1.out.trans HF4.out).mono (fun q hq h => by rcases h with h | h; exact h; (have := HX.out q h; omega)), HR4.out.le (by have := HF1.out.size; omega) HX.out⟩
          rw [take_snoc T k p HP.out]
          exact HM.out.more HPR.out.2.1 (by simp)
        case measure => simp [intOf]; omega
      · rw [List.concat_eq_append] at *
        obtain ⟨gx, cx, hxe, hcx⟩ := HO.out.some (by simp)
        simp only [List.length_append, List.length_cons, List.length_nil, Nat.zero_add] at hxe hcx hlenO
        subst hxe
        go_wp2_with fail
        generalize hW1 : W.alloc (.cells #[.int .i64 p.lo, .int .i64 p.hi] 23) = W1 at *
        have HN1 := hide (HNA.out.fr (Fr.drew W1 (fun _ => False)) (fun h => h))
        have HO1 := hide (HOA.out.fr (Fr.drew W1 (fun _ => False)) (fun _ _ h => h))
        have HF1 := hide ((HFA.out.trans (Fr.drew W1 (fun _ => False))).mono (Y := fun _ => False) (by simp))
        obtain ⟨gx', offx', hex, e0, e1⟩ := HO1.out.pers.get (Fr.refl _ _) I.length q (by simp)
        simp only [Option.some.injEq, Addr.mk.injEq, and_true] at hex
        obtain ⟨rfl, rfl⟩ := hex
        rw [Nat.zero_add] at e0 e1
        have d0 := HN1.out.1
        have d1 := HN1.out.2.1
        have hgx : V2.heap.size ≤ gx := HX.out gx rfl
        have hgW : gx < W.heap.size := (HO.out.lt gx rfl).2
        have hs1 : W1.drew.heap.size = W.heap.size + 1 := by rw [← hW1]; simp [World.drew]
        clear HNA HOA HFA hW1
        refine wp_region_K (fun _ => true) (fun V => V.cell? ⟨gx, I.length * 2 + 1, none⟩ = some (.int .i64 q.hi) ∧ V.cell? ⟨W.heap.size, 0, none⟩ = some (.int .i64 p.lo)) (by kernel_rfl) ?_
        refine wpAnyK_takeTo 0 (some 21) (.int .i64 (I.length : Int)) [] rfl rfl (by kernel_rfl) (by kernel_rfl) (by kernel_rfl) (by kernel_rfl) (fun _ _ _ h => h) ⟨e1, d0⟩ (Or.inl ⟨rfl, fun w1 hw1 => by go_simp⟩) ?_
        simp only [Act.put, List.setIfInBounds_toArray, List.set_cons_zero, List.set_cons_succ]
        refine wpAnyK_takeTo 1 (some 22) (.bool true) [] rfl rfl (by kernel_rfl) (by kernel_rfl) (by kernel_rfl) (by kernel_rfl) (fun _ _ _ h => h) ⟨e1, d0⟩ (Or.inl ⟨rfl, fun w1 hw1 => by go_simp⟩) ?_
        simp only [Act.put, List.setIfInBounds_toArray, List.set_cons_zero, List.set_cons_succ]
        refine wpAnyK_takeTo 2 (some 23) (.bool true) [] rfl rfl (by kernel_rfl) (by kernel_rfl) (by kernel_rfl) (by kernel_rfl) (fun _ _ _ h => h) ⟨e1, d0⟩ (Or.inl ⟨rfl, fun w1 hw1 => by go_simp⟩) ?_
        simp only [Act.put, List.setIfInBounds_toArray, List.set_cons_zero, List.set_cons_succ]
        refine wpAnyK_takeTo 3 (some 24) (.pointer (some ⟨W.heap.size, 0, none⟩)) [] rfl rfl (by kernel_rfl) (by kernel_rfl) (by kernel_rfl) (by kernel_rfl) (fun _ _ _ h => h) ⟨e1, d0⟩ (Or.inl ⟨rfl, fun w1 hw1 => by go_simp⟩) ?_
        simp only [Act.put, List.setIfInBounds_toArray, List.set_cons_zero, List.set_cons_succ]
        refine wpAnyK_takeTo 4 (some 25) (.int .i64 p.lo) [] rfl rfl (by kernel_rfl) (by kernel_rfl) (by kernel_rfl) (by kernel_rfl) (fun _ _ _ h => h) ⟨e1, d0⟩ (Or.inl ⟨rfl, fun w1 hw1 => by obtain ⟨g0, g1⟩ := hw1; go_simp⟩) ?_
        simp only [Act.put, List.setIfInBounds_toArray, List.set_cons_zero, List.set_cons_succ]
        refine wpAnyK_takeTo 5 (some 26) (.slice (some ⟨gx, 0, none⟩) (I.length + 1) cx) [] rfl rfl (by kernel_rfl) (by kernel_rfl) (by kernel_rfl) (by kernel_rfl) (fun _ _ _ h => h) ⟨e1, d0⟩ (Or.inl ⟨rfl, fun w1 hw1 => by go_simp⟩) ?_
        simp only [Act.put, List.setIfInBounds_toArray, List.set_cons_zero, List.set_cons_succ]
        refine wpAnyK_takeTo 6 (some 27) (.int .i64 (I.length : Int)) [] rfl rfl (by kernel_rfl) (by kernel_rfl) (by kernel_rfl) (by kernel_rfl) (fun _ _ _ h => h) ⟨e1, d0⟩ (Or.inl ⟨rfl, fun w1 hw1 => by go_simp⟩) ?_
        simp only [Act.put, List.setIfInBounds_toArray, List.set_cons_zero, List.set_cons_succ]
        refine wpAnyK_takeTo 7 (some 28) (.pointer (some ⟨gx, I.length * 2, none⟩)) [] rfl rfl (by kernel_rfl) (by kernel_rfl) (by kernel_rfl) (by kernel_rfl) (fun _ _ _ h => h) ⟨e1, d0⟩ (Or.inl ⟨rfl, fun w1 hw1 => by go_simp; intro h; omega⟩) ?_
        simp only [Act.put, List.setIfInBounds_toArray, List.set_cons_zero, List.set_cons_succ]
        refine wpAnyK_takeTo 8 (some 29) (.pointer (some ⟨gx, I.length * 2 + 1, none⟩)) [] rfl rfl (by kernel_rfl) (by kernel_rfl) (by kernel_rfl) (by kernel_rfl) (fun _ _ _ h => h) ⟨e1, d0⟩ (Or.inl ⟨rfl, fun w1 hw1 => by go_simp⟩) ?_
        simp only [Act.put, List.setIfInBounds_toArray, List.set_cons_zero, List.set_cons_succ]
        refine wpAnyK_takeTo 9 (some 30) (.int .i64 q.hi) [] rfl rfl (by kernel_rfl) (by kernel_rfl) (by kernel_rfl) (by kernel_rfl) (fun _ _ _ h => h) ⟨e1, d0⟩ (Or.inl ⟨rfl, fun w1 hw1 => by obtain ⟨g0, g1⟩ := hw1; go_simp⟩) ?_
        simp only [Act.put, List.setIfInBounds_toArray, List.set_cons_zero, List.set_cons_succ]
        refine wpAnyK_takeTo 10 (some 31) (.bool (decide (p.lo ≤ q.hi))) [] rfl rfl (by kernel_rfl) (by kernel_rfl) (by kernel_rfl) (by kernel_rfl) (fun _ _ _ h => h) ⟨e1, d0⟩ (Or.inl ⟨rfl, fun w1 hw1 => by go_simp⟩) ?_
        simp only [Act.put, List.setIfInBounds_toArray, List.set_cons_zero, List.set_cons_succ]
        refine wpAnyK_takeTo 11 (some 32) (.bool (decide (p.lo ≤ q.hi))) [] rfl rfl (by kernel_rfl) (by kernel_rfl) (by kernel_rfl) (by kernel_rfl) (fun _ _ _ h => h) ⟨e1, d0⟩ (Or.inl ⟨rfl, fun w1 hw1 => by go_simp⟩) ?_
        simp only [Act.put, List.setIfInBounds_toArray, List.set_cons_zero, List.set_cons_succ]
        refine wpAnyK_done (by kernel_rfl) ?_ _
        generalize W1.drew = W2 at *
        by_cases hle : p.lo ≤ q.hi
        · rw [decide_eq_true hle]
          go_wp2_with fail
          have HN2 := hide (HN1.out.fr (Fr.drew W2 (fun _ => False)) (fun h => h))
          have HO2' := hide (HO1.out.fr (Fr.drew W2 (fun _ => False)) (fun _ _ h => h))
          have HF2' := hide ((HF1.out.trans (Fr.drew W2 (fun _ => False))).mono (Y := fun _ => False) (by simp))
          have hS : W2.drew.cell? ⟨gx, I.length * 2 + 1, none⟩ = some (.int .i64 q.hi) ∧ W2.drew.cell? ⟨W.heap.size, 1, none⟩ = some (.int .i64 p.hi) := ⟨by simpa using e1, by simpa using d1⟩
          have hz := HO2'.out.thawed (I.length * 2 + 1)
          have hs2 : W2.drew.heap.size = W.heap.size + 1 := hs1
          refine wp_region_K (fun j => j != 12) (fun V => V.cell? ⟨gx, I.length * 2 + 1, none⟩ = some (.int .i64 q.hi) ∧ V.cell? ⟨W.heap.size, 1, none⟩ = some (.int .i64 p.hi)) (by kernel_rfl) ?_
          refine wpAnyK_takeTo 0 (some 33) (.slice (some ⟨gx, 0, none⟩) (I.length + 1) cx) [12] rfl rfl (by kernel_rfl) (by kernel_rfl) (by kernel_rfl) (by kernel_rfl) (fun _ _ _ h => h) hS (Or.inl ⟨rfl, fun w1 hw1 => by go_simp⟩) ?_
          simp only [Act.put, List.setIfInBounds_toArray, List.set_cons_zero, List.set_cons_succ]
          refine wpAnyK_takeTo 1 (some 34) (.int .i64 (I.length : Int)) [12] rfl rfl (by kernel_rfl) (by kernel_rfl) (by kernel_rfl) (by kernel_rfl) (fun _ _ _ h => h) hS (Or.inl ⟨rfl, fun w1 hw1 => by go_simp⟩) ?_
          simp only [Act.put, List.setIfInBounds_toArray, List.set_cons_zero, List.set_cons_succ]
          refine wpAnyK_takeTo 2 (some 35) (.slice (some ⟨gx, 0, none⟩) (I.length + 1) cx) [12] rfl rfl (by kernel_rfl) (by kernel_rfl) (by kernel_rfl) (by kernel_rfl) (fun _ _ _ h => h) hS (Or.inl ⟨rfl, fun w1 hw1 => by go_simp⟩) ?_
          simp only [Act.put, List.setIfInBounds_toArray, List.set_cons_zero, List.set_cons_succ]
          refine wpAnyK_takeTo 3 (some 36) (.int .i64 (I.length : Int)) [12] rfl rfl (by kernel_rfl) (by kernel_rfl) (by kernel_rfl) (by kernel_rfl) (fun _ _ _ h => h) hS (Or.inl ⟨rfl, fun w1 hw1 => by go_simp⟩) ?_
          simp only [Act.put, List.setIfInBounds_toArray, List.set_cons_zero, List.set_cons_succ]
          refine wpAnyK_takeTo 4 (some 37) (.pointer (some ⟨gx, I.length * 2, none⟩)) [12] rfl rfl (by kernel_rfl) (by kernel_rfl) (by kernel_rfl) (by kernel_rfl) (fun _ _ _ h => h) hS (Or.inl ⟨rfl, fun w1 hw1 => by go_simp; intro h; omega⟩) ?_
          simp only [Act.put, List.setIfInBounds_toArray, List.set_cons_zero, List.set_cons_succ]
          refine wpAnyK_takeTo 5 (some 38) (.pointer (some ⟨gx, I.length * 2 + 1, none⟩)) [12] rfl rfl (by kernel_rfl) (by kernel_rfl) (by kernel_rfl) (by kernel_rfl) (fun _ _ _ h => h) hS (Or.inl ⟨rfl, fun w1 hw1 => by go_simp⟩) ?_
          simp only [Act.put, List.setIfInBounds_toArray, List.set_cons_zero, List.set_cons_succ]
          refine wpAnyK_takeTo 6 (some 39) (.int .i64 q.hi) [12] rfl rfl (by kernel_rfl) (by kernel_rfl) (by kernel_rfl) (by kernel_rfl) (fun _ _ _ h => h) hS (Or.inl ⟨rfl, fun w1 hw1 => by obtain ⟨g0, g1⟩ := hw1; go_simp⟩) ?_
          simp only [Act.put, List.setIfInBounds_toArray, List.set_cons_zero, List.set_cons_succ]
          refine wpAnyK_takeTo 7 (some 40) (.pointer (some ⟨W.heap.size, 1, none⟩)) [12] rfl rfl (by kernel_rfl) (by kernel_rfl) (by kernel_rfl) (by kernel_rfl) (fun _ _ _ h => h) hS (Or.inl ⟨rfl, fun w1 hw1 => by go_simp⟩) ?_
          simp only [Act.put, List.setIfInBounds_toArray, List.set_cons_zero, List.set_cons_succ]
          refine wpAnyK_takeTo 8 (some 41) (.int .i64 p.hi) [12] rfl rfl (by kernel_rfl) (by kernel_rfl) (by kernel_rfl) (by kernel_rfl) (fun _ _ _ h => h) hS (Or.inl ⟨rfl, fun w1 hw1 => by obtain ⟨g0, g1⟩ := hw1; go_simp⟩) ?_
          simp only [Act.put, List.setIfInBounds_toArray, List.set_cons_zero, List.set_cons_succ]
          refine wpAnyK_takeTo 9 (some 42) (.int .i64 (max q.hi p.hi)) [12] rfl rfl (by kernel_rfl) (by kernel_rfl) (by kernel_rfl) (by kernel_rfl) (fun _ _ _ h => h) hS (Or.inl ⟨rfl, fun w1 hw1 => by go_simp⟩) ?_
          simp only [Act.put, List.setIfInBounds_toArray, List.set_cons_zero, List.set_cons_succ]
          refine wpAnyK_takeTo 10 (some 43) (.pointer (some ⟨gx, I.length * 2, none⟩)) [11, 12] rfl rfl (by kernel_rfl) (by kernel_rfl) (by kernel_rfl) (by kernel_rfl) (fun _ _ _ h => h) hS (Or.inl ⟨rfl, fun w1 hw1 => by go_simp; intro h; omega⟩) ?_
          simp only [Act.put, List.setIfInBounds_toArray, List.set_cons_zero, List.set_cons_succ]
          refine wpAnyK_takeTo 11 (some 44) (.pointer (some ⟨gx, I.length * 2 + 1, none⟩)) [12] rfl rfl (by kernel_rfl) (by kernel_rfl) (by kernel_rfl) (by kernel_rfl) (fun _ _ _ h => h) hS (Or.inl ⟨rfl, fun w1 hw1 => by go_simp⟩) ?_
          simp only [Act.put, List.setIfInBounds_toArray, List.set_cons_zero, List.set_cons_succ]
          refine wpAnyK_one (i := 12) (by kernel_rfl) rfl rfl ?_
          go_simp
          refine wpAnyK_done (by kernel_rfl) ?_ _
          have HO3 := hide (HO2'.out.put1 I.length q (by simp) (max q.hi p.hi))
          have F3 := Fr.setCell W2.drew ⟨gx, I.length * 2 + 1, none⟩ (.int .i64 (max q.hi p.hi))
          have HF3 := hide ((HF2'.out.trans F3).mono (Y := fun _ => False) (fun j hj h => by rcases h with h | h; exact h; (have h : j = gx := h; omega)))
          go_wp2
          go_roundw
          case rel =>
            refine ⟨k + 1, I ++ [⟨q.lo, max q.hi p.hi⟩], by omega, by go_num, ?_, ?_, HF3.out, HX.out⟩
            · have h3 := HO3.out
              rw [show (I ++ [q]).set I.length ⟨q.lo, max q.hi p.hi⟩ = I ++ [⟨q.lo, max q.hi p.hi⟩] by simp] at h3
              exact h3
            · rw [take_snoc T k p HP.out]
              exact HM.out.merge HPR.out.2.1 (sorted_before HS.out k p HP.out) hle
          case measure => simp [intOf]; omega
        · rw [decide_eq_false hle]
          go_wp2_with (refine wpList_pushP rfl (.tmp 45) (.tmp 47) rfl (.slice (some ⟨gx, 0, none⟩) (I.length + 1) cx) (I ++ [q]) rfl HO1.out p _ rfl hs1 (by simp; omega) ?_; intro v4 W4 ho4 hf4 hr4; have HO4 := hide ho4; have HF4 := hide hf4; have HR4 := hide hr4; clear ho4 hf4 hr4)
          go_roundw
          case rel =>
            refine ⟨k + 1, I ++ [q] ++ [p], by omega, by go_num, HO4.out, ?_, (HF1.out.trans HF4.out).mono (fun j hj h => by rcases h with h | h; exact h; (have := HX.out j h; omega)), HR4.out.le (by have := HF1.out.size; omega) HX.out⟩
            rw [take_snoc T k p HP.out]
            exact HM.out.more HPR.out.2.1 (fun z hz => by simp at hz; subst hz; omega)
          case measure => simp [intOf]; omega
    · obtain rfl : k = T.length := by omega
      go_wp2
      go_ret
      exact ⟨_, O, rfl, HO.out, isUnion_of HT.out (by have := HM.out; rwa [List.take_length] at this), (HF2.out.trans HF.out).mono (by simp), fun q hq => by have := HX.out q hq; have := HF2.out.size; omega⟩
end Go.Proofs.YtbdpdobaacbkkaaDoor
