/- SameRows; rows once. -/
import Derived.Test.YtlapifncplbcnaaGreatCu
namespace Go.Proofs.YtlapifncplbcnaaGreat
open Go.RowKit Go.Sort Go.Shelf
set_option maxRecDepth 100000
set_option linter.unusedVariables false
set_option linter.unusedSimpArgs false

theorem rowR_at {w : World} {a : Option Addr} {L : List Rw} (h : Row elR w a L) {j : Nat} {x : Rw} (hx : L[j]? = some x) : ∃ g off, a = some ⟨g, off, none⟩ ∧ g < w.heap.size ∧ w.cell? ⟨g, off + j, none⟩ = some (.slice x.p x.row.length x.c) := by
  obtain ⟨g, off, rfl, hlt⟩ := h.block hx
  refine ⟨g, off, rfl, hlt, ?_⟩
  have := h.at hx (i := 0) (u := x.rv) rfl
  have e : off + j * elR.k + 0 = off + j := by show off + j * 1 + 0 = _; omega
  rw [e] at this
  exact this
theorem mp_take {X Y : List Rw} {k : Nat} {f h : Rw} (hx : X[k]? = some f) (hy : Y[k]? = some h) (he : (X.take k).map Rw.row = (Y.take k).map Rw.row) (hf : f.row = h.row) : (X.take (k + 1)).map Rw.row = (Y.take (k + 1)).map Rw.row := by
  rw [take_snoc hx, take_snoc hy, List.map_append, List.map_append, he]
  simp [hf]
theorem mp_differ {X Y : List Rw} {k : Nat} {f h : Rw} (hx : X[k]? = some f) (hy : Y[k]? = some h) (hf : f.row ≠ h.row) : decide (X.map Rw.row = Y.map Rw.row) = false := by
  rw [decide_eq_false_iff_not]
  intro e
  apply hf
  have h1 : (X.map Rw.row)[k]? = some f.row := by rw [List.getElem?_map, hx]; rfl
  have h2 : (Y.map Rw.row)[k]? = some h.row := by rw [List.getElem?_map, hy]; rfl
  rw [e, h2] at h1
  exact (Option.some.inj h1).symm
set_option maxHeartbeats 8000000 in
theorem samerows_any {w : World} {a b : Option Addr} {c d n m : Nat} {R S : List Rw} (hR : Row elR w a R) (hS : Row elR w b S) (hn : n = R.length) (hm : m = S.length) (hl : n ≤ 1099511627776) (hr : ∀ x ∈ R, Rok w (fun _ => True) x.p x.c x.row) (hs : ∀ x ∈ S, Rok w (fun _ => True) x.p x.c x.row) :
    Calls Tryz.prog 29 #[.slice a n c, .slice b m d] w fun e w' => e = .returned (.bool (decide (R.map Rw.row = S.map Rw.row))) ∧ Fr w w' (fun _ => False) := by
  have HR := hide hR
  have HS := hide hS
  have HN := hide hn
  have HM := hide hm
  have HRR := hide hr
  have HSS := hide hs
  clear hR hS hn hm hr hs
  by_cases hmm : n = m
  · subst hmm
    go_enter Tryz.func29, Tryz.ntmps29
    go_wp2_with fail
    go_loopw [5] (fun i wr => ∃ k : Nat, k ≤ n ∧ i = .int .i64 (k : Int) ∧ (R.take k).map Rw.row = (S.take k).map Rw.row ∧ Fr w wr (fun _ => False)) (fun i _ => n - (intOf i).toNat)
    case atStart => exact ⟨0, by omega, rfl, by simp, Fr.refl _ _⟩
    case round =>
      rename World => W
      obtain ⟨k, hk, rfl, he, hf⟩ := hrel
      have HE := hide he
      have HF := hide hf
      clear he hf
      by_cases hlt : k < n
      · obtain ⟨f, hf⟩ : ∃ f, R[k]? = some f := ⟨_, List.getElem?_eq_getElem (by rw [← HN.out]; exact hlt)⟩
        obtain ⟨h, hh⟩ : ∃ h, S[k]? = some h := ⟨_, List.getElem?_eq_getElem (by rw [← HM.out]; exact hlt)⟩
        have HFX := hide hf
        have HHY := hide hh
        have FD : Fr w W.drew (fun _ => False) := (HF.out.trans (Fr.drew W (fun _ => False))).mono (by simp)
        obtain ⟨g1, o1, rfl, _, _⟩ := rowR_at (HR.out.fr FD (fun _ _ _ _ h => h)) hf
        obtain ⟨g2, o2, rfl, _, _⟩ := rowR_at (HS.out.fr FD (fun _ _ _ _ h => h)) hh
        have HFD := hide FD
        have HC1 : Hid (∀ U, Fr W.drew U (fun _ => False) → U.cell? ⟨g1, o1 + k, none⟩ = some (.slice f.p f.row.length f.c)) := hide (fun U hU => by
          obtain ⟨g3, o3, e3, _, d⟩ := rowR_at (HR.out.fr ((HFD.out.trans hU).mono (Y := fun _ => False) (by simp)) (fun _ _ _ _ h => h)) HFX.out
          injection e3 with e3
          injection e3 with e3 e4
          subst e3 e4
          exact d)
        have HC2 : Hid (∀ U, Fr W.drew U (fun _ => False) → U.cell? ⟨g2, o2 + k, none⟩ = some (.slice h.p h.row.length h.c)) := hide (fun U hU => by
          obtain ⟨g3, o3, e3, _, d⟩ := rowR_at (HS.out.fr ((HFD.out.trans hU).mono (Y := fun _ => False) (by simp)) (fun _ _ _ _ h => h)) HHY.out
          injection e3 with e3
          injection e3 with e3 e4
          subst e3 e4
          exact d)
        have HOX := hide ((HRR.out f (List.mem_of_getElem? hf)).fr FD (fun _ _ _ h => h))
        have HOY := hide ((HSS.out h (List.mem_of_getElem? hh)).fr FD (fun _ _ _ h => h))
        have hS : (fun U : World => Fr (W.drew) U (fun _ => False)) W.drew := Fr.refl _ _
        clear hf hh FD
        go_wp2_with fail
        refine wp_region_K (fun z => decide (z < 8)) (fun U : World => Fr (W.drew) U (fun _ => False)) (by kernel_rfl) ?_
        generalize W.drew = V at *
        refine wpAnyK_takeTo 0 (some 17) ((.slice (some ⟨g1, o1, none⟩) n c)) [2, 3, 8, 9] rfl rfl (by kernel_rfl) (by kernel_rfl) (by kernel_rfl) (by kernel_rfl) (fun _ _ _ h => h) hS (Or.inl ⟨rfl, fun w1 hw1 => by go_simp⟩) ?_
        simp only [Act.put, List.setIfInBounds_toArray, List.set_cons_zero, List.set_cons_succ]
        refine wpAnyK_takeTo 1 (some 18) (.int .i64 (k : Int)) [2, 3, 8, 9] rfl rfl (by kernel_rfl) (by kernel_rfl) (by kernel_rfl) (by kernel_rfl) (fun _ _ _ h => h) hS (Or.inl ⟨rfl, fun w1 hw1 => by go_simp⟩) ?_
        simp only [Act.put, List.setIfInBounds_toArray, List.set_cons_zero, List.set_cons_succ]
        refine wpAnyK_takeTo 2 (some 19) (.pointer (some ⟨g1, o1 + k, none⟩)) [3, 8, 9] rfl rfl (by kernel_rfl) (by kernel_rfl) (by kernel_rfl) (by kernel_rfl) (fun _ _ _ h => h) hS (Or.inl ⟨rfl, fun w1 hw1 => by go_simp; first | done | (intro h; omega) | omega⟩) ?_
        simp only [Act.put, List.setIfInBounds_toArray, List.set_cons_zero, List.set_cons_succ]
        refine wpAnyK_takeTo 3 (some 20) (.slice f.p f.row.length f.c) [8, 9] rfl rfl (by kernel_rfl) (by kernel_rfl) (by kernel_rfl) (by kernel_rfl) (fun _ _ _ h => h) hS (Or.inl ⟨rfl, fun w1 hw1 => by have q0 := HC1.out _ hw1; go_simp⟩) ?_
        simp only [Act.put, List.setIfInBounds_toArray, List.set_cons_zero, List.set_cons_succ]
        refine wpAnyK_takeTo 4 (some 21) ((.slice (some ⟨g2, o2, none⟩) n d)) [6, 7, 8, 9] rfl rfl (by kernel_rfl) (by kernel_rfl) (by kernel_rfl) (by kernel_rfl) (fun _ _ _ h => h) hS (Or.inl ⟨rfl, fun w1 hw1 => by go_simp⟩) ?_
        simp only [Act.put, List.setIfInBounds_toArray, List.set_cons_zero, List.set_cons_succ]
        refine wpAnyK_takeTo 5 (some 22) (.int .i64 (k : Int)) [6, 7, 8, 9] rfl rfl (by kernel_rfl) (by kernel_rfl) (by kernel_rfl) (by kernel_rfl) (fun _ _ _ h => h) hS (Or.inl ⟨rfl, fun w1 hw1 => by go_simp⟩) ?_
        simp only [Act.put, List.setIfInBounds_toArray, List.set_cons_zero, List.set_cons_succ]
        refine wpAnyK_takeTo 6 (some 23) (.pointer (some ⟨g2, o2 + k, none⟩)) [7, 8, 9] rfl rfl (by kernel_rfl) (by kernel_rfl) (by kernel_rfl) (by kernel_rfl) (fun _ _ _ h => h) hS (Or.inl ⟨rfl, fun w1 hw1 => by go_simp; first | done | (intro h; omega) | omega⟩) ?_
        simp only [Act.put, List.setIfInBounds_toArray, List.set_cons_zero, List.set_cons_succ]
        refine wpAnyK_takeTo 7 (some 24) (.slice h.p h.row.length h.c) [8, 9] rfl rfl (by kernel_rfl) (by kernel_rfl) (by kernel_rfl) (by kernel_rfl) (fun _ _ _ h => h) hS (Or.inl ⟨rfl, fun w1 hw1 => by have q0 := HC2.out _ hw1; go_simp⟩) ?_
        simp only [Act.put, List.setIfInBounds_toArray, List.set_cons_zero, List.set_cons_succ]
        refine wpAnyK_one (i := 8) (by kernel_rfl) rfl rfl ?_
        refine wp_call_to (some 25) rfl 36 #[.slice f.p f.row.length f.c, .slice h.p h.row.length h.c] (by go_simp) (rsame_any HOX.out HOY.out) ?_
        rintro e W2 ⟨rfl, f2⟩
        have HF2 := hide ((HFD.out.trans f2).mono (Y := fun _ => False) (by simp))
        clear f2
        refine ⟨_, rfl, fun h => absurd h (by decide), ?_⟩
        simp only [Act.put, List.setIfInBounds_toArray, List.set_cons_zero, List.set_cons_succ]
        by_cases hr : f.row = h.row
        · rw [show decide (f.row = h.row) = true from decide_eq_true hr]
          have HTK := hide (mp_take HFX.out HHY.out HE.out hr)
          clear hr
          refine wpAnyK_one (i := 9) (by kernel_rfl) rfl rfl ?_
          go_simp
          refine wpAnyK_done (by kernel_rfl) ?_ _
          clear hS
          go_wp2
          go_roundw
          case rel => exact ⟨k + 1, by omega, by go_num, HTK.out, HF2.out⟩
          case measure => simp [intOf]; omega
        · rw [show decide (f.row = h.row) = false from decide_eq_false hr]
          have HND := hide (mp_differ HFX.out HHY.out hr)
          clear hr
          refine wpAnyK_one (i := 9) (by kernel_rfl) rfl rfl ?_
          go_simp
          refine wpAnyK_done (by kernel_rfl) ?_ _
          clear hS
          go_wp2
          go_ret
          exact ⟨by rw [HND.out]; rfl, HF2.out⟩
      · obtain rfl : k = n := by omega
        have HE2 := hide (show decide (R.map Rw.row = S.map Rw.row) = true by
          have e := HE.out
          have e1 : R.take k = R := by rw [HN.out, List.take_length]
          have e2 : S.take k = S := by rw [HM.out, List.take_length]
          rw [e1, e2] at e
          simpa using e)
        go_wp2
        go_ret
        exact ⟨by rw [HE2.out]; rfl, HF.out⟩
  · have HND := hide (show decide (R.map Rw.row = S.map Rw.row) = false by
      rw [decide_eq_false_iff_not]
      intro e
      have := congrArg List.length e
      rw [List.length_map, List.length_map] at this
      have h1 := HN.out
      have h2 := HM.out
      omega)
    rw [HND.out]
    have hl2 : ¬ (n : Int) = (m : Int) := by omega
    go_enter Tryz.func29, Tryz.ntmps29
    go_wp2
    go_ret
    exact ⟨rfl, Fr.refl _ _⟩
/-- Rows, each once, in order. -/
structure DqI (P O : List (List Val)) : Prop where
  srt : O.Pairwise (fun a b => cmpL a b < 0)
  mem : ∀ r, r ∈ O ↔ r ∈ P
theorem DqI.same {P O : List (List Val)} {x : List Val} (h : DqI P O) (hx : x ∈ O) : DqI (P ++ [x]) O := by
  refine ⟨h.srt, fun r => ?_⟩
  rw [List.mem_append, h.mem]
  constructor
  · exact .inl
  · rintro (h1 | h1)
    · exact h1
    · rw [List.mem_singleton.1 h1]; exact (h.mem x).1 hx
theorem DqI.push {P O : List (List Val)} {x : List Val} (h : DqI P O) (hx : ∀ o ∈ O, cmpL o x < 0) : DqI (P ++ [x]) (O ++ [x]) := by
  refine ⟨?_, fun r => ?_⟩
  · rw [List.pairwise_append]
    exact ⟨h.srt, by simp, fun a ha b hb => by rw [List.mem_singleton.1 hb]; exact hx a ha⟩
  · rw [List.mem_append, List.mem_append, h.mem]
theorem DqI.lt {P O0 : List (List Val)} {x y : List Val} (h : DqI P (O0 ++ [y])) (hP : ∀ r ∈ P, 0 ≤ cmpL x r) (hn : y ≠ x) : ∀ o ∈ O0 ++ [y], cmpL o x < 0 := by
  intro o ho
  have h1 := hP o ((h.mem o).1 ho)
  have h2 := good_vals.neg o x
  have h3 : cmpL o x ≠ 0 := by
    intro e
    have e2 := cmpL_zero.1 e
    subst e2
    rcases List.mem_append.1 ho with ho | ho
    · have h4 := (List.pairwise_append.1 h.srt).2.2 o ho y (by simp)
      have h5 := hP y ((h.mem y).1 (by simp))
      have h6 := good_vals.neg o y
      omega
    · exact hn (List.mem_singleton.1 ho).symm
  omega
theorem strict_unique : ∀ {A B : List (List Val)}, A.Pairwise (fun a b => cmpL a b < 0) → B.Pairwise (fun a b => cmpL a b < 0) → (∀ r, r ∈ A ↔ r ∈ B) → A = B
  | [], [], _, _, _ => rfl
  | [], b :: B, _, _, h => by have := (h b).2 (by simp); cases this
  | a :: A, [], _, _, h => by have := (h a).1 (by simp); cases this
  | a :: A, b :: B, hA, hB, h => by
    have a1 := List.pairwise_cons.1 hA
    have b1 := List.pairwise_cons.1 hB
    have e : a = b := by
      rcases List.mem_cons.1 ((h a).1 (by simp)) with h1 | h1
      · exact h1
      · rcases List.mem_cons.1 ((h b).2 (by simp)) with h2 | h2
        · exact h2.symm
        · have h3 := a1.1 b h2
          have h4 := b1.1 a h1
          have h5 := good_vals.neg a b
          omega
    subst e
    rw [strict_unique a1.2 b1.2 (fun r => by
      constructor
      · intro hr
        rcases List.mem_cons.1 ((h r).1 (List.mem_cons_of_mem _ hr)) with h1 | h1
        · have := a1.1 r hr; rw [h1, cmpL_self] at this; omega
        · exact h1
      · intro hr
        rcases List.mem_cons.1 ((h r).2 (List.mem_cons_of_mem _ hr)) with h1 | h1
        · have := b1.1 r hr; rw [h1, cmpL_self] at this; omega
        · exact h1)]
theorem rows_count (L : List Ft) (r : List Val) (t : Int) : (((rowsAt L t).count r : Nat) : Int) = cN L r t := by
  induction L with
  | nil => rfl
  | cons f L ih =>
    have e : cN (f :: L) r t = nF f r t + cN L r t := rfl
    rw [e, ← ih]
    unfold rowsAt nF
    rw [List.filter_cons]
    by_cases h1 : okF f = true
    · by_cases h2 : f.lo ≤ t ∧ t < f.hi
      · rw [if_pos (by simp [h1, hasB, h2]), List.map_cons, List.count_cons]
        by_cases h3 : f.row = r
        · rw [if_pos (by simpa using h3), if_pos ⟨h1, h3, h2.1, h2.2⟩]; push_cast; omega
        · rw [if_neg (by simpa using h3), if_neg (fun h => h3 h.2.1)]; push_cast; omega
      · rw [if_neg (by simp only [hasB, h1, Bool.true_and, decide_eq_true_eq]; exact h2), if_neg (fun h => h2 ⟨h.2.2.1, h.2.2.2⟩)]; omega
    · rw [if_neg (by simp [h1]), if_neg (fun h => h1 h.1)]; omega
theorem cN_fa (L : List Ft) (r : List Val) (t : Int) : cN L r t = tot (fun f : Fa => if rightB ⟨f.lo, f.hi⟩ = true ∧ f.row = r ∧ f.lo ≤ t ∧ t < f.hi then 1 else 0) (L.map Ft.fa) := by
  rw [tot_map]; rfl
theorem Co.cN {S : List St} {F : List Ft} (h : Co S (F.map Ft.fa)) (hS : Rts S) (r : List Val) (t : Int) : cN F r t = if 0 < sumR S r t then 1 else 0 := by
  rw [← h.cnt r t, cntF_tot, cN_fa]
  apply tot_congr
  intro f hf
  obtain ⟨g, hg, rfl⟩ := List.mem_map.1 hf
  have h1 := (h.can hS).right g hg
  have e : rightB ⟨g.fa.lo, g.fa.hi⟩ = true := h1
  simp only [e, true_and]
/-- The rows of what is coalesced, at an instant: each row once. -/
theorem co_rows {L F : List Ft} (h : Co (stepsL L 1) (F.map Ft.fa)) {t : Int} {R O : List (List Val)} (hR : R.Perm (rowsAt F t)) (hs : R.Pairwise (fun a b => 0 ≤ cmpL b a)) {Q : List (List Val)} (hQ : Q.Perm (rowsAt L t)) (hO : DqI Q O) : R = O := by
  have hc : ∀ r, (((rowsAt F t).count r : Nat) : Int) = if 0 < cN L r t then 1 else 0 := fun r => by rw [rows_count, h.cN (Rts.steps _ _), sumR_steps, Int.one_mul]
  refine strict_unique ?_ hO.srt (fun r => ?_)
  · have hnd : R.Nodup := by
      rw [List.nodup_iff_count]
      intro r
      rw [hR.count_eq]
      have := hc r
      split at this <;> omega
    have h1 := hs.and hnd
    exact h1.imp (fun {a b} hab => by
      have h2 := good_vals.neg a b
      have h3 : cmpL b a ≠ 0 := fun e => hab.2 (cmpL_zero.1 e).symm
      omega)
  · rw [hO.mem, hQ.mem_iff, hR.mem_iff]
    have h1 := hc r
    have h2 := rows_count L r t
    rw [← List.count_pos_iff, ← List.count_pos_iff]
    by_cases c : 0 < cN L r t
    · rw [if_pos c] at h1; omega
    · rw [if_neg c] at h1; omega
theorem co_again {L F G : List Ft} (h : Co (stepsL L 1) (F.map Ft.fa)) (k : Co (stepsL F 1) (G.map Ft.fa)) : G.map Ft.fa = F.map Ft.fa := by
  refine NF.unique k.nf h.nf (fun r t => ?_)
  have h1 := k.cnt r t
  have h2 := h.cnt r t
  have h3 := h.cN (Rts.steps _ _) r t
  rw [sumR_steps, Int.one_mul] at h1
  split at h3 <;> split at h1 <;> split at h2 <;> omega
theorem co_normal {L F N : List Ft} (h : Co (stepsL L 1) (F.map Ft.fa)) (k : Fo (stepsL F 1) (N.map Ft.fa)) : N.map Ft.fa = F.map Ft.fa := by
  refine NF.unique k.nf h.nf (fun r t => ?_)
  have h1 := k.cnt r t
  have h2 := h.cnt r t
  have h3 := h.cN (Rts.steps _ _) r t
  rw [sumR_steps, Int.one_mul] at h1
  split at h3 <;> split at h2 <;> omega
end Go.Proofs.YtlapifncplbcnaaGreat
