/- Union. -/
import Derived.Test.YtlapifncplbcnaaGreatCq
namespace Go.Proofs.YtlapifncplbcnaaGreat
open Go.RowKit Go.Sort Go.Shelf
set_option maxRecDepth 100000
set_option linter.unusedVariables false
set_option linter.unusedSimpArgs false

theorem UnI.perm {S T U : List Per} (h : UnI T U) (p : T.Perm S) : UnI S U :=
  ⟨h.ok, h.apart, fun t => by rw [← h.mem t]; constructor <;> (rintro ⟨q, hq, h2⟩; first | exact ⟨q, p.mem_iff.2 hq, h2⟩ | exact ⟨q, p.mem_iff.1 hq, h2⟩), fun u hu => by obtain ⟨q, hq, e⟩ := h.lo u hu; exact ⟨q, p.mem_iff.1 hq, e⟩, by rw [← p.length_eq]; exact h.len⟩
theorem Own.thawed {α : Type} {E : El α} {w : World} {g n c : Nat} {L : List α} (h : Own E w (.slice (some ⟨g, 0, none⟩) n c) L) (j : Nat) : w.frozen? ⟨g, j, none⟩ = false := by
  rcases h.2 with ⟨h1, _⟩ | ⟨g', cap, cur, hv, _, hg, _⟩
  · simp at h1
  · simp only [Value.slice.injEq, Option.some.injEq, Addr.mk.injEq, and_true] at hv
    obtain ⟨rfl, _⟩ := hv
    simp [World.frozen?, hg]
set_option maxHeartbeats 16000000 in
theorem union_any {w : World} {a : Option Addr} {c n : Nat} {L : List Per} (hL : Row elP w a L) (hn : n = L.length) (hl : n ≤ 549755813888) :
    Calls Tryz.prog 51 #[.slice a n c] w fun e w' => ∃ v U, e = .returned v ∧ Own elP w' v U ∧ UnI (L.filter rightB) U ∧ (∀ q, v.ownBlock = some q → w.heap.size ≤ q) ∧ Fr w w' (fun _ => False) := by
  have HPO := hide (periodsOf_any (c := c) hL hn (by omega))
  have HLEN := hide (show (L.filter rightB).length ≤ n by rw [hn]; exact List.length_filter_le ..)
  clear hL hn
  go_enter Tryz.func51, Tryz.ntmps51
  go_wp2_with fail
  refine HPO.out.mono ?_
  rintro e w2 ⟨v2, rfl, ho, hb, hf⟩
  have HF2 := hide hf
  have HSO := hide (sortP_any v2 _ w2 ho (by have := HLEN.out; omega))
  obtain ⟨aT, cT, hv2, _⟩ := ho.shape
  have HV2 := hide hv2
  have HB2 := hide hb
  obtain ⟨m, hm⟩ : ∃ m, m = (L.filter rightB).length := ⟨_, rfl⟩
  rw [← hm] at hv2
  have HM := hide hm
  have hml : m ≤ 549755813888 := by have := HLEN.out; omega
  rw [hv2] at HSO
  have HV2M := hide hv2
  rw [hv2]
  clear ho hb hf hm hv2 HPO
  go_wp2_with fail
  refine HSO.out.mono ?_
  rintro e w3 ⟨rfl, T, hpm, hsrt, ho, hf⟩
  have HPM := hide hpm
  have HST := hide hsrt
  have HROW := hide ho.row
  have HF3 := hide ((HF2.out.trans hf).mono (Y := fun _ => False) (by
    rintro q hq (h | h)
    · exact h
    · rw [← HV2M.out] at h; have := HB2.out q h; omega))
  have HMT := hide (show m = T.length by rw [HM.out, hpm.length_eq])
  have HRT := hide (show ∀ p ∈ T, p.lo < p.hi from fun p hp => by
    have h1 := (List.mem_filter.1 (hpm.mem_iff.1 hp)).2
    exact ((rightB_iff p).1 h1).2.1)
  clear hpm hsrt ho hf HSO
  go_wp2_with fail
  go_loopw [4, 14] (fun v i wr => ∃ (k : Nat) (U : List Per), i = .int .i64 (k : Int) ∧ k ≤ m ∧ Own elP wr v U ∧ UnI (T.take k) U ∧ (∀ q, v.ownBlock = some q → w3.heap.size ≤ q) ∧ Fr w3 wr (fun _ => False)) (fun _ i _ => m - (intOf i).toNat)
  case atStart => exact ⟨0, [], rfl, Nat.zero_le _, Own.nil elP _, UnI.nil, (by intro q hq; cases hq), Fr.refl _ _⟩
  case round =>
    rename World => w7
    obtain ⟨k, U, rfl, hk, ho, hu, hb, hf⟩ := hrel
    have HO := hide ho
    have HU := hide hu
    have HB := hide hb
    have HF := hide hf
    clear ho hu hb hf
    by_cases hlt : k < m
    · obtain ⟨p, hp⟩ : ∃ p, T[k]? = some p := ⟨_, List.getElem?_eq_getElem (by rw [← HMT.out]; exact hlt)⟩
      have HP := hide hp
      have HPL := hide (HRT.out p (List.mem_of_getElem? hp))
      obtain ⟨g, off, rfl, hg, c0, c1⟩ := rowP_at (HROW.out.fr HF.out (fun _ _ _ _ h => h)) hp
      obtain ⟨w8, h8⟩ : ∃ w8, w8 = w7.alloc (.cells #[.int .i64 p.lo, .int .i64 p.hi] 24) := ⟨_, rfl⟩
      obtain ⟨gb, hgb⟩ : ∃ gb, gb = w7.heap.size := ⟨_, rfl⟩
      have HT8 := hide (show Two w8 gb (.int .i64 p.lo) (.int .i64 p.hi) by rw [h8, hgb]; exact two_of (heap_alloc_new w7 _))
      have f8 : Fr w7 w8 (fun _ => False) := by rw [h8]; exact Fr.alloc _ _ _
      have HF8 := hide ((HF.out.trans f8).mono (Y := fun _ => False) (by simp))
      have HO8 := hide (HO.out.fr f8 (fun _ _ h => h))
      have H8 := hide h8
      have HG := hide hgb
      have HUL := hide (show U.length ≤ 549755813888 by have := HU.out.len; rw [List.length_take] at this; omega)
      have t4 := HT8.out.2.2
      rw [h8, hgb] at t4
      clear hp hg h8 hgb f8 HF HO
      rcases List.eq_nil_or_concat U with hU | ⟨U0, q, hU⟩
      · subst hU
        obtain ⟨au, cu, hv4, _⟩ := HO8.out.shape
        simp only [List.length_nil] at hv4
        subst hv4
        have HUP := hide (HU.out.push HPL.out (by simp))
        go_wp2_with fail
        rw [← H8.out, ← HG.out]
        clear c0 c1 H8 HG t4
        refine wp_region_K (fun z => decide (z < 12)) (fun U : World => Fr (w8.drew) U (fun _ => False)) (by kernel_rfl) ?_
        have hS : (fun U : World => Fr (w8.drew) U (fun _ => False)) w8.drew := Fr.refl _ _
        have D1 := Fr.drew w8 (fun _ => False)
        have HF9 := hide ((HF8.out.trans D1).mono (Y := fun _ => False) (by simp))
        have HT9 := hide (HT8.out.fr D1 (fun h => h))
        have HO9 := hide (HO8.out.fr D1 (fun _ _ h => h))
        clear D1 HT8 HF8 HO8
        generalize w8.drew = V at *
        refine wpAnyK_takeTo 0 (some 21) (.int .i64 (-1)) [1, 2, 3, 4, 5, 6, 7, 8, 9, 10, 11] rfl rfl (by kernel_rfl) (by kernel_rfl) (by kernel_rfl) (by kernel_rfl) (fun _ _ _ h => h) hS (Or.inl ⟨rfl, fun w1 hw1 => by go_simp⟩) ?_
        simp only [Act.put, List.setIfInBounds_toArray, List.set_cons_zero, List.set_cons_succ]
        refine wpAnyK_takeTo 1 (some 22) (.bool false) [2, 3, 4, 5, 6, 7, 8, 9, 10, 11] rfl rfl (by kernel_rfl) (by kernel_rfl) (by kernel_rfl) (by kernel_rfl) (fun _ _ _ h => h) hS (Or.inl ⟨rfl, fun w1 hw1 => by go_simp⟩) ?_
        simp only [Act.put, List.setIfInBounds_toArray, List.set_cons_zero, List.set_cons_succ]
        refine wpAnyK_takeTo 2 (some 23) (.bool false) [3, 4, 5, 6, 7, 8, 9, 10, 11] rfl rfl (by kernel_rfl) (by kernel_rfl) (by kernel_rfl) (by kernel_rfl) (fun _ _ _ h => h) hS (Or.inl ⟨rfl, fun w1 hw1 => by go_simp⟩) ?_
        simp only [Act.put, List.setIfInBounds_toArray, List.set_cons_zero, List.set_cons_succ]
        refine wpAnyK_takeTo 3 (some 24) (undef) [4, 10, 11] rfl rfl (by kernel_rfl) (by kernel_rfl) (by kernel_rfl) (by kernel_rfl) (fun _ _ _ h => h) hS (Or.inr ⟨rfl, rfl⟩) ?_
        simp only [Act.put, List.setIfInBounds_toArray, List.set_cons_zero, List.set_cons_succ]
        refine wpAnyK_takeTo 4 (some 25) (undef) [10, 11] rfl rfl (by kernel_rfl) (by kernel_rfl) (by kernel_rfl) (by kernel_rfl) (fun _ _ _ h => h) hS (Or.inr ⟨rfl, rfl⟩) ?_
        simp only [Act.put, List.setIfInBounds_toArray, List.set_cons_zero, List.set_cons_succ]
        refine wpAnyK_takeTo 5 (some 26) (undef) [7, 8, 9, 10, 11] rfl rfl (by kernel_rfl) (by kernel_rfl) (by kernel_rfl) (by kernel_rfl) (fun _ _ _ h => h) hS (Or.inr ⟨rfl, rfl⟩) ?_
        simp only [Act.put, List.setIfInBounds_toArray, List.set_cons_zero, List.set_cons_succ]
        refine wpAnyK_takeTo 6 (some 27) (undef) [7, 8, 9, 10, 11] rfl rfl (by kernel_rfl) (by kernel_rfl) (by kernel_rfl) (by kernel_rfl) (fun _ _ _ h => h) hS (Or.inr ⟨rfl, rfl⟩) ?_
        simp only [Act.put, List.setIfInBounds_toArray, List.set_cons_zero, List.set_cons_succ]
        refine wpAnyK_takeTo 7 (some 28) (undef) [8, 9, 10, 11] rfl rfl (by kernel_rfl) (by kernel_rfl) (by kernel_rfl) (by kernel_rfl) (fun _ _ _ h => h) hS (Or.inr ⟨rfl, rfl⟩) ?_
        simp only [Act.put, List.setIfInBounds_toArray, List.set_cons_zero, List.set_cons_succ]
        refine wpAnyK_takeTo 8 (some 29) (undef) [9, 10, 11] rfl rfl (by kernel_rfl) (by kernel_rfl) (by kernel_rfl) (by kernel_rfl) (fun _ _ _ h => h) hS (Or.inr ⟨rfl, rfl⟩) ?_
        simp only [Act.put, List.setIfInBounds_toArray, List.set_cons_zero, List.set_cons_succ]
        refine wpAnyK_takeTo 9 (some 30) (undef) [10, 11] rfl rfl (by kernel_rfl) (by kernel_rfl) (by kernel_rfl) (by kernel_rfl) (fun _ _ _ h => h) hS (Or.inr ⟨rfl, rfl⟩) ?_
        simp only [Act.put, List.setIfInBounds_toArray, List.set_cons_zero, List.set_cons_succ]
        refine wpAnyK_takeTo 10 (some 31) (undef) [11] rfl rfl (by kernel_rfl) (by kernel_rfl) (by kernel_rfl) (by kernel_rfl) (fun _ _ _ h => h) hS (Or.inr ⟨rfl, rfl⟩) ?_
        simp only [Act.put, List.setIfInBounds_toArray, List.set_cons_zero, List.set_cons_succ]
        refine wpAnyK_takeTo 11 (some 32) (.bool false) [] rfl rfl (by kernel_rfl) (by kernel_rfl) (by kernel_rfl) (by kernel_rfl) (fun _ _ _ h => h) hS (Or.inl ⟨rfl, fun w1 hw1 => by go_simp⟩) ?_
        simp only [Act.put, List.setIfInBounds_toArray, List.set_cons_zero, List.set_cons_succ]
        refine wpAnyK_done (by kernel_rfl) ?_ _
        clear hS
        have q0 := HT9.out.1
        have q1 := HT9.out.2.1
        go_wp2_with (refine wpList_push elP rfl (.tmp 45) (.tmp 47) rfl (.slice au 0 cu) _ rfl HO9.out [p] _ 1 1 rfl rfl (by first | rfl | simp) (by have := HUL.out; simp only [List.length_singleton]; omega) _ rfl ?_; intro v' wa ho hf hr2; have HOA := hide ho; have HFA := hide hf; have HRA := hide hr2; clear ho hf hr2)
        go_roundw
        case rel =>
          refine ⟨k + 1, [] ++ [p], by go_num, by omega, HOA.out, by rw [take_snoc HP.out]; exact HUP.out, HRA.out.le HF9.out.size HB.out, (HF9.out.trans HFA.out).mono ?_⟩
          rintro q' hq (h | h)
          · exact h
          · have := HB.out q' h; omega
        case measure => simp [intOf]; omega
      · rw [List.concat_eq_append] at hU
        subst hU
        obtain ⟨n0, hn0⟩ : ∃ n0, n0 = U0.length := ⟨_, rfl⟩
        obtain ⟨au, cu, hv4, hcu, hnu, _, hsu⟩ := HO8.out.shape
        obtain ⟨gu, hgu⟩ : ∃ gu, au = some ⟨gu, 0, none⟩ := by
          cases ha : au with
          | none => have := (hnu ha).2; simp at this
          | some z => obtain ⟨g2, e2⟩ := hsu z ha; exact ⟨g2, by rw [e2]⟩
        rw [hgu, show (U0 ++ [q]).length = n0 + 1 by rw [List.length_append, hn0]; rfl] at hv4
        subst hv4
        have hn0l : n0 + 1 ≤ 549755813888 := by have := HUL.out; rw [List.length_append, ← hn0] at this; exact this
        have wn : IntKind.i64.wrap ((n0 : Int) + 1 - 1) = (n0 : Int) := by rw [IntKind.wrap_i64]; omega
        have wn2 : IntKind.i64.wrap (n0 : Int) = (n0 : Int) := by rw [IntKind.wrap_i64]; omega
        have HN0 := hide hn0
        have HQ8 : Hid (∀ W, Fr w8 W (fun _ => False) → W.cell? ⟨gu, n0 * 2 + 1, none⟩ = some (.int .i64 q.hi)) := hide (fun W hW => by
          have h1 := (HO8.out.fr hW (fun _ _ h => h)).row
          have h2 := h1.at (j := n0) (p := q) (by rw [hn0]; simp) (i := 1) rfl
          have e1 : 0 + n0 * elP.k + 1 = n0 * 2 + 1 := by show 0 + n0 * 2 + 1 = _; omega
          rw [e1] at h2
          exact h2)
        clear hgu hnu hsu hcu hn0
        go_wp2_with fail
        rw [← H8.out, ← HG.out]
        clear c0 c1 H8 t4
        refine wp_region_K (fun z => decide (z < 12)) (fun U : World => Fr (w8.drew) U (fun _ => False)) (by kernel_rfl) ?_
        have hS : (fun U : World => Fr (w8.drew) U (fun _ => False)) w8.drew := Fr.refl _ _
        have D1 := Fr.drew w8 (fun _ => False)
        have HF9 := hide ((HF8.out.trans D1).mono (Y := fun _ => False) (by simp))
        have HTV := hide (HT8.out.fr D1 (fun h => h))
        have HO9 := hide (HO8.out.fr D1 (fun _ _ h => h))
        have HQV := hide (fun W (hW : Fr w8.drew W (fun _ => False)) => HQ8.out W ((D1.trans hW).mono (by simp)))
        clear D1 HT8 HF8 HO8 HQ8
        generalize w8.drew = V at *
        refine wpAnyK_takeTo 0 (some 21) (.int .i64 (n0 : Int)) [1, 2, 3, 4, 5, 6, 7, 8, 9, 10, 11] rfl rfl (by kernel_rfl) (by kernel_rfl) (by kernel_rfl) (by kernel_rfl) (fun _ _ _ h => h) hS (Or.inl ⟨rfl, fun w1 hw1 => by go_simp⟩) ?_
        simp only [Act.put, List.setIfInBounds_toArray, List.set_cons_zero, List.set_cons_succ]
        refine wpAnyK_takeTo 1 (some 22) (.bool true) [2, 3, 4, 5, 6, 7, 8, 9, 10, 11] rfl rfl (by kernel_rfl) (by kernel_rfl) (by kernel_rfl) (by kernel_rfl) (fun _ _ _ h => h) hS (Or.inl ⟨rfl, fun w1 hw1 => by go_simp⟩) ?_
        simp only [Act.put, List.setIfInBounds_toArray, List.set_cons_zero, List.set_cons_succ]
        refine wpAnyK_takeTo 2 (some 23) (.bool true) [3, 4, 5, 6, 7, 8, 9, 10, 11] rfl rfl (by kernel_rfl) (by kernel_rfl) (by kernel_rfl) (by kernel_rfl) (fun _ _ _ h => h) hS (Or.inl ⟨rfl, fun w1 hw1 => by go_simp⟩) ?_
        simp only [Act.put, List.setIfInBounds_toArray, List.set_cons_zero, List.set_cons_succ]
        refine wpAnyK_takeTo 3 (some 24) (.pointer (some ⟨gb, 0, none⟩)) [4, 10, 11] rfl rfl (by kernel_rfl) (by kernel_rfl) (by kernel_rfl) (by kernel_rfl) (fun _ _ _ h => h) hS (Or.inl ⟨rfl, fun w1 hw1 => by go_simp⟩) ?_
        simp only [Act.put, List.setIfInBounds_toArray, List.set_cons_zero, List.set_cons_succ]
        refine wpAnyK_takeTo 4 (some 25) (.int .i64 p.lo) [10, 11] rfl rfl (by kernel_rfl) (by kernel_rfl) (by kernel_rfl) (by kernel_rfl) (fun _ _ _ h => h) hS (Or.inl ⟨rfl, fun w1 hw1 => by have q0 := (HTV.out.fr hw1 (fun h => h)).1; have q1 := (HTV.out.fr hw1 (fun h => h)).2.1; go_simp⟩) ?_
        simp only [Act.put, List.setIfInBounds_toArray, List.set_cons_zero, List.set_cons_succ]
        refine wpAnyK_takeTo 5 (some 26) ((.slice (some ⟨gu, 0, none⟩) (n0 + 1) cu)) [7, 8, 9, 10, 11] rfl rfl (by kernel_rfl) (by kernel_rfl) (by kernel_rfl) (by kernel_rfl) (fun _ _ _ h => h) hS (Or.inl ⟨rfl, fun w1 hw1 => by go_simp⟩) ?_
        simp only [Act.put, List.setIfInBounds_toArray, List.set_cons_zero, List.set_cons_succ]
        refine wpAnyK_takeTo 6 (some 27) (.int .i64 (n0 : Int)) [7, 8, 9, 10, 11] rfl rfl (by kernel_rfl) (by kernel_rfl) (by kernel_rfl) (by kernel_rfl) (fun _ _ _ h => h) hS (Or.inl ⟨rfl, fun w1 hw1 => by go_simp⟩) ?_
        simp only [Act.put, List.setIfInBounds_toArray, List.set_cons_zero, List.set_cons_succ]
        refine wpAnyK_takeTo 7 (some 28) (.pointer (some ⟨gu, n0 * 2, none⟩)) [8, 9, 10, 11] rfl rfl (by kernel_rfl) (by kernel_rfl) (by kernel_rfl) (by kernel_rfl) (fun _ _ _ h => h) hS (Or.inl ⟨rfl, fun w1 hw1 => by go_simp; first | done | (intro h; omega) | omega⟩) ?_
        simp only [Act.put, List.setIfInBounds_toArray, List.set_cons_zero, List.set_cons_succ]
        refine wpAnyK_takeTo 8 (some 29) (.pointer (some ⟨gu, n0 * 2 + 1, none⟩)) [9, 10, 11] rfl rfl (by kernel_rfl) (by kernel_rfl) (by kernel_rfl) (by kernel_rfl) (fun _ _ _ h => h) hS (Or.inl ⟨rfl, fun w1 hw1 => by go_simp⟩) ?_
        simp only [Act.put, List.setIfInBounds_toArray, List.set_cons_zero, List.set_cons_succ]
        refine wpAnyK_takeTo 9 (some 30) (.int .i64 q.hi) [10, 11] rfl rfl (by kernel_rfl) (by kernel_rfl) (by kernel_rfl) (by kernel_rfl) (fun _ _ _ h => h) hS (Or.inl ⟨rfl, fun w1 hw1 => by have q0 := HQV.out _ hw1; go_simp⟩) ?_
        simp only [Act.put, List.setIfInBounds_toArray, List.set_cons_zero, List.set_cons_succ]
        by_cases hle : p.lo ≤ q.hi
        · have HLE := hide hle
          refine wpAnyK_takeTo 10 (some 31) (.bool true) [11] rfl rfl (by kernel_rfl) (by kernel_rfl) (by kernel_rfl) (by kernel_rfl) (fun _ _ _ h => h) hS (Or.inl ⟨rfl, fun w1 hw1 => by go_simp; first | done | omega⟩) ?_
          simp only [Act.put, List.setIfInBounds_toArray, List.set_cons_zero, List.set_cons_succ]
          refine wpAnyK_takeTo 11 (some 32) (.bool true) [] rfl rfl (by kernel_rfl) (by kernel_rfl) (by kernel_rfl) (by kernel_rfl) (fun _ _ _ h => h) hS (Or.inl ⟨rfl, fun w1 hw1 => by go_simp⟩) ?_
          simp only [Act.put, List.setIfInBounds_toArray, List.set_cons_zero, List.set_cons_succ]
          refine wpAnyK_done (by kernel_rfl) ?_ _
          clear hS hle
          have HUG := hide (HU.out.grow HPL.out (by
            obtain ⟨r, hr, e⟩ := HU.out.lo q (by simp)
            rw [e]
            exact srtP_before HST.out HP.out r hr) HLE.out)
          go_wp2_with fail
          refine wp_region_K (fun z => decide (z < 12)) (fun U : World => Fr (V.drew) U (fun _ => False)) (by kernel_rfl) ?_
          have hS : (fun U : World => Fr (V.drew) U (fun _ => False)) V.drew := Fr.refl _ _
          have D1 := Fr.drew V (fun _ => False)
          have HF10 := hide ((HF9.out.trans D1).mono (Y := fun _ => False) (by simp))
          have HTV2 := hide (HTV.out.fr D1 (fun h => h))
          have HO10 := hide (HO9.out.fr D1 (fun _ _ h => h))
          have HQV2 := hide (fun W (hW : Fr V.drew W (fun _ => False)) => HQV.out W ((D1.trans hW).mono (by simp)))
          clear D1 HTV HO9 HQV HF9
          generalize V.drew = V2 at *
          refine wpAnyK_takeTo 0 (some 33) ((.slice (some ⟨gu, 0, none⟩) (n0 + 1) cu)) [10, 11, 12] rfl rfl (by kernel_rfl) (by kernel_rfl) (by kernel_rfl) (by kernel_rfl) (fun _ _ _ h => h) hS (Or.inl ⟨rfl, fun w1 hw1 => by go_simp⟩) ?_
          simp only [Act.put, List.setIfInBounds_toArray, List.set_cons_zero, List.set_cons_succ]
          refine wpAnyK_takeTo 1 (some 34) (.int .i64 (n0 : Int)) [10, 11, 12] rfl rfl (by kernel_rfl) (by kernel_rfl) (by kernel_rfl) (by kernel_rfl) (fun _ _ _ h => h) hS (Or.inl ⟨rfl, fun w1 hw1 => by go_simp⟩) ?_
          simp only [Act.put, List.setIfInBounds_toArray, List.set_cons_zero, List.set_cons_succ]
          refine wpAnyK_takeTo 2 (some 35) ((.slice (some ⟨gu, 0, none⟩) (n0 + 1) cu)) [4, 5, 6, 9, 10, 11, 12] rfl rfl (by kernel_rfl) (by kernel_rfl) (by kernel_rfl) (by kernel_rfl) (fun _ _ _ h => h) hS (Or.inl ⟨rfl, fun w1 hw1 => by go_simp⟩) ?_
          simp only [Act.put, List.setIfInBounds_toArray, List.set_cons_zero, List.set_cons_succ]
          refine wpAnyK_takeTo 3 (some 36) (.int .i64 (n0 : Int)) [4, 5, 6, 9, 10, 11, 12] rfl rfl (by kernel_rfl) (by kernel_rfl) (by kernel_rfl) (by kernel_rfl) (fun _ _ _ h => h) hS (Or.inl ⟨rfl, fun w1 hw1 => by go_simp⟩) ?_
          simp only [Act.put, List.setIfInBounds_toArray, List.set_cons_zero, List.set_cons_succ]
          refine wpAnyK_takeTo 4 (some 37) (.pointer (some ⟨gu, n0 * 2, none⟩)) [5, 6, 9, 10, 11, 12] rfl rfl (by kernel_rfl) (by kernel_rfl) (by kernel_rfl) (by kernel_rfl) (fun _ _ _ h => h) hS (Or.inl ⟨rfl, fun w1 hw1 => by go_simp; first | done | (intro h; omega) | omega⟩) ?_
          simp only [Act.put, List.setIfInBounds_toArray, List.set_cons_zero, List.set_cons_succ]
          refine wpAnyK_takeTo 5 (some 38) (.pointer (some ⟨gu, n0 * 2 + 1, none⟩)) [6, 9, 10, 11, 12] rfl rfl (by kernel_rfl) (by kernel_rfl) (by kernel_rfl) (by kernel_rfl) (fun _ _ _ h => h) hS (Or.inl ⟨rfl, fun w1 hw1 => by go_simp⟩) ?_
          simp only [Act.put, List.setIfInBounds_toArray, List.set_cons_zero, List.set_cons_succ]
          refine wpAnyK_takeTo 6 (some 39) (.int .i64 q.hi) [9, 10, 11, 12] rfl rfl (by kernel_rfl) (by kernel_rfl) (by kernel_rfl) (by kernel_rfl) (fun _ _ _ h => h) hS (Or.inl ⟨rfl, fun w1 hw1 => by have q0 := HQV2.out _ hw1; go_simp⟩) ?_
          simp only [Act.put, List.setIfInBounds_toArray, List.set_cons_zero, List.set_cons_succ]
          refine wpAnyK_takeTo 7 (some 40) (.pointer (some ⟨gb, 1, none⟩)) [8, 9, 10, 11, 12] rfl rfl (by kernel_rfl) (by kernel_rfl) (by kernel_rfl) (by kernel_rfl) (fun _ _ _ h => h) hS (Or.inl ⟨rfl, fun w1 hw1 => by go_simp⟩) ?_
          simp only [Act.put, List.setIfInBounds_toArray, List.set_cons_zero, List.set_cons_succ]
          refine wpAnyK_takeTo 8 (some 41) (.int .i64 p.hi) [9, 10, 11, 12] rfl rfl (by kernel_rfl) (by kernel_rfl) (by kernel_rfl) (by kernel_rfl) (fun _ _ _ h => h) hS (Or.inl ⟨rfl, fun w1 hw1 => by have q0 := (HTV2.out.fr hw1 (fun h => h)).1; have q1 := (HTV2.out.fr hw1 (fun h => h)).2.1; go_simp⟩) ?_
          simp only [Act.put, List.setIfInBounds_toArray, List.set_cons_zero, List.set_cons_succ]
          refine wpAnyK_takeTo 9 (some 42) (.int .i64 (max q.hi p.hi)) [10, 11, 12] rfl rfl (by kernel_rfl) (by kernel_rfl) (by kernel_rfl) (by kernel_rfl) (fun _ _ _ h => h) hS (Or.inl ⟨rfl, fun w1 hw1 => by go_simp⟩) ?_
          simp only [Act.put, List.setIfInBounds_toArray, List.set_cons_zero, List.set_cons_succ]
          refine wpAnyK_takeTo 10 (some 43) (.pointer (some ⟨gu, n0 * 2, none⟩)) [11, 12] rfl rfl (by kernel_rfl) (by kernel_rfl) (by kernel_rfl) (by kernel_rfl) (fun _ _ _ h => h) hS (Or.inl ⟨rfl, fun w1 hw1 => by go_simp; first | done | (intro h; omega) | omega⟩) ?_
          simp only [Act.put, List.setIfInBounds_toArray, List.set_cons_zero, List.set_cons_succ]
          refine wpAnyK_takeTo 11 (some 44) (.pointer (some ⟨gu, n0 * 2 + 1, none⟩)) [12] rfl rfl (by kernel_rfl) (by kernel_rfl) (by kernel_rfl) (by kernel_rfl) (fun _ _ _ h => h) hS (Or.inl ⟨rfl, fun w1 hw1 => by go_simp⟩) ?_
          simp only [Act.put, List.setIfInBounds_toArray, List.set_cons_zero, List.set_cons_succ]
          have hz := HO10.out.thawed (n0 * 2 + 1)
          have hq0 := HQV2.out V2 (Fr.refl _ _)
          refine wpAnyK_one (i := 12) (by kernel_rfl) rfl rfl ?_
          go_simp
          refine wpAnyK_done (by kernel_rfl) ?_ _
          have HO11 := hide (HO10.out.put (j := n0) (p := q) (q := ⟨q.lo, max q.hi p.hi⟩) (by rw [HN0.out]; simp) (i := 1) (u := .int .i64 (max q.hi p.hi)) rfl (by show 1 < 2; omega))
          have F3 := Fr.setCell V2 ⟨gu, n0 * 2 + 1, none⟩ (.int .i64 (max q.hi p.hi))
          have HF11 := hide ((HF10.out.trans F3).mono (Y := fun _ => False) (fun j hj h => by
            rcases h with h | h
            · exact h
            · have h2 := HB.out gu rfl
              simp only at h
              omega))
          clear hS F3 hz hq0
          go_wp2
          go_roundw
          case rel =>
            refine ⟨k + 1, U0 ++ [⟨q.lo, max q.hi p.hi⟩], by go_num, by omega, ?_, by rw [take_snoc HP.out]; exact HUG.out, HB.out, HF11.out⟩
            have h3 := HO11.out
            rw [show (U0 ++ [q]).set n0 ⟨q.lo, max q.hi p.hi⟩ = U0 ++ [⟨q.lo, max q.hi p.hi⟩] by rw [HN0.out]; simp] at h3
            exact h3
          case measure => simp [intOf]; omega
        · have HLE := hide hle
          refine wpAnyK_takeTo 10 (some 31) (.bool false) [11] rfl rfl (by kernel_rfl) (by kernel_rfl) (by kernel_rfl) (by kernel_rfl) (fun _ _ _ h => h) hS (Or.inl ⟨rfl, fun w1 hw1 => by go_simp; first | done | omega⟩) ?_
          simp only [Act.put, List.setIfInBounds_toArray, List.set_cons_zero, List.set_cons_succ]
          refine wpAnyK_takeTo 11 (some 32) (.bool false) [] rfl rfl (by kernel_rfl) (by kernel_rfl) (by kernel_rfl) (by kernel_rfl) (fun _ _ _ h => h) hS (Or.inl ⟨rfl, fun w1 hw1 => by go_simp⟩) ?_
          simp only [Act.put, List.setIfInBounds_toArray, List.set_cons_zero, List.set_cons_succ]
          refine wpAnyK_done (by kernel_rfl) ?_ _
          clear hS hle
          have HUP := hide (HU.out.push HPL.out (fun u hu => by have h1 := HU.out.last u hu; have h2 := HLE.out; omega))
          have q0 := HTV.out.1
          have q1 := HTV.out.2.1
          go_wp2_with (refine wpList_push elP rfl (.tmp 45) (.tmp 47) rfl (.slice (some ⟨gu, 0, none⟩) (n0 + 1) cu) _ rfl HO9.out [p] _ 1 1 rfl rfl (by first | rfl | simp) (by have := HUL.out; simp only [List.length_singleton]; omega) _ rfl ?_; intro v' wa ho hf hr2; have HOA := hide ho; have HFA := hide hf; have HRA := hide hr2; clear ho hf hr2)
          go_roundw
          case rel =>
            refine ⟨k + 1, (U0 ++ [q]) ++ [p], by go_num, by omega, HOA.out, by rw [take_snoc HP.out]; exact HUP.out, HRA.out.le HF9.out.size HB.out, (HF9.out.trans HFA.out).mono ?_⟩
            rintro q' hq (h | h)
            · exact h
            · have := HB.out q' h; omega
          case measure => simp [intOf]; omega
    · obtain rfl : k = m := by omega
      have hE : T.take k = T := by rw [HMT.out, List.take_length]
      have hu := HU.out
      rw [hE] at hu
      have HUE := hide (hu.perm HPM.out)
      have HFE := hide ((HF3.out.trans HF.out).mono (Y := fun _ => False) (by simp))
      clear hE hu
      go_wp2
      go_ret
      exact ⟨_, U, rfl, HO.out, HUE.out, fun q hq => by have := HB.out q hq; have := HF3.out.size; omega, HFE.out⟩
end Go.Proofs.YtlapifncplbcnaaGreat
