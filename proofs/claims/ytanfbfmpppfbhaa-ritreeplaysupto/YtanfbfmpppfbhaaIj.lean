/- The document's Cut and Overlap. -/
import Derived.Test.YtanfbfmpppfbhaaJd
namespace Go.Proofs.Ytanfbfmpppfbhaa
open Go.RowKit
set_option maxRecDepth 100000
set_option linter.unusedVariables false
set_option linter.unusedSimpArgs false

theorem wpList_val {w : World} {ops : Array Oper} {rest : List Oper} {o : Oper} {act : Act} {Q : Exit → Act → World → Prop} (hgd : o.guard = none) (v : Value) (hr : (execOp act.eval o).run Try.prog w = .ok (.value v) w)
    (h : wpList Try.prog ops Q rest (act.put o.dst v) w) : wpList Try.prog ops Q (o :: rest) act w :=
  wpList_plain hgd fun _ hK => by
    unfold Oper.wp
    rw [hr]
    exact hK _ _ h
/-- What the document's Cut leaves. -/
def RCutQ (w : World) (v : Value) (L : List Itm) (id : Int) (e : Ending) (w' : World) : Prop :=
  Fr w w' (fun _ => False) ∧ (((∀ q ∈ L, q.id ≠ id) ∧ e = .returned (.tuple #[v, .int .i64 4])) ∨
  ((∃ q ∈ L, q.id = id) ∧ ∃ v', e = .returned (.tuple #[v', .int .i64 0]) ∧ OwnT w' v' (without L id) ∧ ∀ k, v'.ownBlock = some k → w.heap.size ≤ k))
set_option maxHeartbeats 4000000 in
theorem refcut_any {w : World} {v : Value} {L : List Itm} (h : OwnT w v L) (hI : Ids L) (id : Int) (hl : L.length ≤ 2199023255552) : Calls Try.prog 34 #[v, .int .i64 id] w (RCutQ w v L id) := by
  obtain ⟨Q, hQ⟩ : ∃ Q, Q = RCutQ w v L id := ⟨_, rfl⟩
  rw [← hQ]
  have HQQ := hide hQ
  have HT := hide h
  have HI := hide hI
  obtain ⟨a, c, hv, hnc, hac, hcm⟩ := h.shape
  have hcm2 : c ≤ 9223372036854775807 := by unfold maxLen at hcm; omega
  obtain ⟨n, hn⟩ : ∃ n, n = L.length := ⟨_, rfl⟩
  have HL := hide hl
  rw [← hn] at hv hl hnc
  subst hv
  have HN := hide hn
  have HFD := hide (find_any' h id (by omega))
  clear h hQ hn hac hI hcm
  go_enter Try.func34, Try.ntmps34
  go_wp2_with fail
  refine HFD.out.mono ?_
  rintro e w3 ⟨hV, ⟨k, p, hk, hp, rfl⟩ | ⟨hno, rfl⟩⟩
  · obtain rfl := hV.symm
    have hkn : k < n := by rw [HN.out]; exact (List.getElem?_eq_some_iff.1 hk).1
    have HWO : Hid (L.take k ++ L.drop (k + 1) = without L id) := hide (by rw [← hp]; exact without_eq HI.out hk)
    have HEX : Hid (∃ q ∈ L, q.id = id) := hide ⟨p, List.mem_of_getElem? hk, hp⟩
    obtain ⟨g, rfl, -⟩ := HT.out.at k p hk
    have hlg : ∀ j q, L[j]? = some q → w.cell? ⟨g, j * 3, none⟩ = some (.int .i64 q.id) ∧ w.cell? ⟨g, j * 3 + 1, none⟩ = some (.int .i64 q.lo) ∧ w.cell? ⟨g, j * 3 + 2, none⟩ = some (.int .i64 q.hi) := fun j q hq => by
      obtain ⟨g', e, h⟩ := HT.out.at j q hq
      cases e; exact h
    have HI1 : Hid (Itms w (some ⟨g, 0, none⟩) (L.take k)) := hide (.inr ⟨g, 0, rfl, fun j q hq => by
      rw [List.getElem?_take] at hq
      split at hq
      · simpa using hlg j q hq
      · cases hq⟩)
    obtain ⟨AX, hAX⟩ : ∃ AX, AX = (if c = k + 1 then some (⟨g, 0, none⟩ : Addr) else some ⟨g, (k + 1) * 3, none⟩) := ⟨_, rfl⟩
    have HAX := hide hAX
    have HI2 : Hid (Itms w AX (L.drop (k + 1))) := hide (by
      rw [hAX]
      by_cases hc : c = k + 1
      · exact .inl (List.drop_eq_nil_of_le (by rw [← HN.out]; omega))
      · rw [if_neg hc]
        exact .inr ⟨g, (k + 1) * 3, rfl, fun j q hq => by
          rw [List.getElem?_drop] at hq
          have h := hlg _ q hq
          rw [show (k + 1) * 3 + j * 3 = (k + 1 + j) * 3 by omega]
          exact h⟩)
    clear hAX
    have HL1 : Hid ((L.take k).length = k) := hide (by rw [List.length_take, ← HN.out]; omega)
    have HL2 : Hid ((L.drop (k + 1)).length = n - (k + 1)) := hide (by rw [List.length_drop, ← HN.out])
    have hg1 : g < w.heap.size := World.block_lt_of_cell? w _ (hlg k p hk).1
    have HG1 := hide hg1
    clear hV hk hp hlg HFD hg1
    go_wp2_with first | (refine wpList_catT rfl (.tmp 14) (.tmp 17) rfl _ [] rfl (ownT_made w) _ k c _ HL1.out rfl (HI1.out.fr (Fr.alloc w _ (fun _ => False)) (fun _ _ _ _ h => h)) (fun h => by cases h) (by simp only [List.length_nil]; omega) ?_; intro v3 W3 o3 f3 r3; have HO3 := hide o3; have HF3 := hide (((Fr.alloc w (.cells #[] 100) (fun _ => False)).trans f3).mono (Y := fun _ => False) (fun q hq h => by rcases h with h | h; exact h; (have h : some w.heap.size = some q := h; injection h with h; omega))); have HR3 := hide (show ∀ q, v3.ownBlock = some q → w.heap.size ≤ q from fun q hq => by rcases r3 with h1 | ⟨k, h1, h2⟩; (have h1 : v3.ownBlock = some w.heap.size := h1; rw [hq] at h1; injection h1 with h1; omega); (rw [hq] at h1; injection h1 with h1; simp at h2; omega)); clear o3 f3 r3) | (refine wpList_val rfl (.int .i64 ((k : Int) + 1)) (by go_simp; exact wraps_i64 _ (by omega) (by omega)) ?_; refine wpList_val rfl (.slice AX (n - (k + 1)) (c - (k + 1))) (by go_simp; rw [if_pos ⟨by omega, by omega⟩, HAX.out]) ?_; simp only [Act.put, List.setIfInBounds_toArray, List.set_cons_zero, List.set_cons_succ]; refine wpList_catT rfl (.tmp 19) (.tmp 23) rfl v3 _ rfl HO3.out _ (n - (k + 1)) _ _ HL2.out rfl (HI2.out.fr HF3.out (fun _ _ _ _ h => h)) (fun h => by rw [HAX.out] at h; split at h <;> cases h) (by rw [List.nil_append, HL1.out]; omega) ?_; intro v4 W4 o4 f4 r4; have HO4 := hide o4; have HF4 := hide ((HF3.out.trans f4).mono (Y := fun _ => False) (fun q hq h => by rcases h with h | h; exact h; (have := HR3.out q h; omega))); have HR4 := hide (show ∀ q, v4.ownBlock = some q → w.heap.size ≤ q from fun q hq => by rcases r4 with h1 | ⟨k, h1, h2⟩; exact HR3.out q (h1 ▸ hq); (rw [hq] at h1; injection h1 with h1; have := HF3.out.size; omega)); clear o4 f4 r4)
    have HRES : Hid (Q (.returned (.tuple #[v4, .int .i64 0])) W4) := hide (by
      rw [HQQ.out]
      exact ⟨HF4.out, .inr ⟨HEX.out, v4, rfl, by have h := HO4.out; rw [List.nil_append, HWO.out] at h; exact h, HR4.out⟩⟩)
    first | exact HRES.out | (go_ret; exact HRES.out)
  · obtain rfl := hV.symm
    have HRES : Hid (∀ W, RCutQ W (.slice a n c) L id (.returned (.tuple #[.slice a n c, .int .i64 4])) W) := hide (fun W => ⟨Fr.refl _ _, .inl ⟨hno, rfl⟩⟩)
    clear hV hno HFD
    go_wp2
    rw [HQQ.out]
    first | exact HRES.out _ | (go_ret; exact HRES.out _)

theorem hits_take {q : Per} {L : List Itm} {k : Nat} {p : Itm} (h : L[k]? = some p) : hits q (L.take (k + 1)) = hits q (L.take k) ++ (if p.lo < q.hi ∧ q.lo < p.hi then [p.id] else []) := by
  rw [List.take_add_one, h]
  exact hits_snoc q _ p
theorem hits_len (q : Per) (L : List Itm) : (hits q L).length ≤ L.length := by
  unfold hits
  rw [List.length_map]
  exact List.length_filter_le ..
/-- What the document's Overlap answers. -/
def ROverQ (w : World) (L : List Itm) (q : Per) (e : Ending) (w' : World) : Prop := ∃ (v : Value) (A : List Int), e = .returned (.tuple #[v, .int .i64 (codeP q)]) ∧ OwnI w' v A ∧ (rightB q = true → A = insAll (hits q L)) ∧ (rightB q = false → A = []) ∧ Fr w w' (fun _ => False)
set_option maxHeartbeats 8000000 in
theorem reflap_any {w : World} {v : Value} {L : List Itm} (h : OwnT w v L) (lo hi : Int) (hl : L.length ≤ 2199023255552) : Calls Try.prog 35 #[v, .agg #[.int .i64 lo, .int .i64 hi]] w (ROverQ w L ⟨lo, hi⟩) := by
  obtain ⟨Q, hQ⟩ : ∃ Q, Q = ROverQ w L ⟨lo, hi⟩ := ⟨_, rfl⟩
  rw [← hQ]
  have HQQ := hide hQ
  have HC := hide (right_any ⟨lo, hi⟩)
  obtain ⟨gb, hg⟩ : ∃ g, g = w.heap.size := ⟨_, rfl⟩
  obtain ⟨w1, hw1⟩ : ∃ w1, w1 = w.alloc (.cells #[.int .i64 lo, .int .i64 hi] 23) := ⟨_, rfl⟩
  have f1 : Fr w w1 (fun _ => False) := by rw [hw1]; exact Fr.alloc w _ _
  have b1 : Two w1 gb (.int .i64 lo) (.int .i64 hi) := by rw [hw1, hg]; exact two_of (heap_alloc_new w _)
  have HT := hide h
  obtain ⟨a, c, hv, _, _, _⟩ := h.shape
  obtain ⟨n, hn⟩ : ∃ n, n = L.length := ⟨_, rfl⟩
  rw [← hn] at hv hl
  subst hv
  have HN := hide hn
  have HF1 := hide f1
  have HB1 := hide b1
  have HW := hide hw1
  have HG := hide hg
  have c0 := b1.1
  have c1 := b1.2.1
  clear h hQ hn f1 b1 hw1 hg
  unfold perV at HC
  go_enter Try.func35, Try.ntmps35
  go_wp2_with (rw [← HW.out, ← HG.out]; clear HW)
  refine (HC.out w1).mono ?_
  rintro e w2 ⟨rfl, f2⟩
  have HT2 := hide (HB1.out.fr f2 (fun h => h))
  have HF := hide ((HF1.out.trans f2).mono (Y := fun _ => False) (by simp))
  clear f2 c0 c1 HB1 HF1 HC
  by_cases hr : rightB ⟨lo, hi⟩ = true
  · have HCODE := hide (codeP_ok _ hr)
    have HR := hide hr
    rw [hr]
    clear hr
    go_wp2
    go_loopw [6, 7] (fun v i wr => ∃ k : Nat, i = .int .i64 (k : Int) ∧ k ≤ n ∧ OwnI wr v (insAll (hits ⟨lo, hi⟩ (L.take k))) ∧ Fr w2 wr (fun _ => False)) (fun _ i _ => n - (intOf i).toNat)
    case atStart => exact ⟨0, rfl, Nat.zero_le _, OwnI.nil _, Fr.refl _ _⟩
    case round =>
      rename World => w7
      obtain ⟨k, rfl, hk, ho, hf⟩ := hrel
      have HO := hide ho
      have HFF := hide hf
      clear ho hf
      by_cases hlt : k < n
      · obtain ⟨p, hp⟩ : ∃ p, L[k]? = some p := ⟨_, List.getElem?_eq_getElem (by rw [← HN.out]; exact hlt)⟩
        have HF7 := hide ((HF.out.trans HFF.out).mono (Y := fun _ => False) (by simp))
        obtain ⟨g, rfl, e0, e1, e2⟩ := (HT.out.fr HF7.out (fun _ _ h => h)).at k p hp
        have HT7 := HT2.out.fr HFF.out (fun h => h)
        have HTK := hide (hits_take (q := ⟨lo, hi⟩) hp)
        have HLEN : Hid ((insAll (hits ⟨lo, hi⟩ (L.take k))).length ≤ 4398046511104) := hide (by rw [insAll_len]; have h1 := hits_len ⟨lo, hi⟩ (L.take k); rw [List.length_take, ← HN.out] at h1; omega)
        go_wp2_with fail
        refine wp_region_K (fun z => decide (z < 20)) (fun U : World => U = w7.drew) (by kernel_rfl) ?_
        have HFV := hide ((HFF.out.trans (Fr.drew w7 (fun _ => False))).mono (Y := fun _ => False) (by simp))
        have HOV := hide (HO.out.fr (Fr.drew w7 (fun _ => False)) (fun _ _ h => h))
        have HD0 : Hid (w7.drew.cell? ⟨gb, 0, none⟩ = some (.int .i64 lo)) := hide HT7.1
        have HD1 : Hid (w7.drew.cell? ⟨gb, 1, none⟩ = some (.int .i64 hi)) := hide HT7.2.1
        have HE0 : Hid (w7.drew.cell? ⟨g, k * 3, none⟩ = some (.int .i64 p.id)) := hide e0
        have HE1 : Hid (w7.drew.cell? ⟨g, k * 3 + 1, none⟩ = some (.int .i64 p.lo)) := hide e1
        have HE2 : Hid (w7.drew.cell? ⟨g, k * 3 + 1 + 1, none⟩ = some (.int .i64 p.hi)) := hide e2
        clear HO HF7 HT7 e0 e1 e2 hp
        generalize w7.drew = V at *
        have HO := HOV
        clear HOV
        have hS : (fun U : World => U = V) V := rfl
        by_cases hc1 : p.lo < hi
        · by_cases hc2 : lo < p.hi
          · have HS : Hid (insAll (hits ⟨lo, hi⟩ (L.take (k + 1))) = ins p.id (insAll (hits ⟨lo, hi⟩ (L.take k)))) := hide (by rw [HTK.out, if_pos ⟨hc1, hc2⟩]; exact insAll_snoc _ _)
            have HWI := hide (with_any HO.out p.id HLEN.out)
            refine wpAnyK_takeTo 0 (some 17) (.slice (some ⟨g, 0, none⟩) n c) [2, 3, 4, 5, 8, 9, 10, 11, 12, 13, 14, 15, 16, 17, 18, 19] rfl rfl (by kernel_rfl) (by kernel_rfl) (by kernel_rfl) (by kernel_rfl) (fun _ _ _ h => h) hS (Or.inl ⟨rfl, fun w1 hw1 => by obtain rfl := (hw1 : w1 = V); have d0 := HD0.out; have d1 := HD1.out; have e1 := HE1.out; have e2 := HE2.out; go_simp⟩) ?_
            simp only [Act.put, List.setIfInBounds_toArray, List.set_cons_zero, List.set_cons_succ]
            refine wpAnyK_takeTo 1 (some 18) (.int .i64 (k : Int)) [2, 3, 4, 5, 8, 9, 10, 11, 12, 13, 14, 15, 16, 17, 18, 19] rfl rfl (by kernel_rfl) (by kernel_rfl) (by kernel_rfl) (by kernel_rfl) (fun _ _ _ h => h) hS (Or.inl ⟨rfl, fun w1 hw1 => by obtain rfl := (hw1 : w1 = V); have d0 := HD0.out; have d1 := HD1.out; have e1 := HE1.out; have e2 := HE2.out; go_simp⟩) ?_
            simp only [Act.put, List.setIfInBounds_toArray, List.set_cons_zero, List.set_cons_succ]
            refine wpAnyK_takeTo 2 (some 19) (.pointer (some ⟨g, k * 3, none⟩)) [3, 4, 5, 8, 9, 10, 11, 12, 13, 14, 15, 16, 17, 18, 19] rfl rfl (by kernel_rfl) (by kernel_rfl) (by kernel_rfl) (by kernel_rfl) (fun _ _ _ h => h) hS (Or.inl ⟨rfl, fun w1 hw1 => by obtain rfl := (hw1 : w1 = V); have d0 := HD0.out; have d1 := HD1.out; have e1 := HE1.out; have e2 := HE2.out; go_simp⟩) ?_
            simp only [Act.put, List.setIfInBounds_toArray, List.set_cons_zero, List.set_cons_succ]
            refine wpAnyK_takeTo 3 (some 20) (.pointer (some ⟨g, k * 3 + 1, none⟩)) [4, 5, 8, 9, 10, 11, 12, 13, 14, 15, 16, 17, 18, 19] rfl rfl (by kernel_rfl) (by kernel_rfl) (by kernel_rfl) (by kernel_rfl) (fun _ _ _ h => h) hS (Or.inl ⟨rfl, fun w1 hw1 => by obtain rfl := (hw1 : w1 = V); have d0 := HD0.out; have d1 := HD1.out; have e1 := HE1.out; have e2 := HE2.out; go_simp⟩) ?_
            simp only [Act.put, List.setIfInBounds_toArray, List.set_cons_zero, List.set_cons_succ]
            refine wpAnyK_takeTo 4 (some 21) (.pointer (some ⟨g, k * 3 + 1, none⟩)) [5, 8, 9, 10, 11, 12, 13, 14, 15, 16, 17, 18, 19] rfl rfl (by kernel_rfl) (by kernel_rfl) (by kernel_rfl) (by kernel_rfl) (fun _ _ _ h => h) hS (Or.inl ⟨rfl, fun w1 hw1 => by obtain rfl := (hw1 : w1 = V); have d0 := HD0.out; have d1 := HD1.out; have e1 := HE1.out; have e2 := HE2.out; go_simp⟩) ?_
            simp only [Act.put, List.setIfInBounds_toArray, List.set_cons_zero, List.set_cons_succ]
            refine wpAnyK_takeTo 5 (some 22) (.int .i64 p.lo) [8, 9, 10, 11, 12, 13, 14, 15, 16, 17, 18, 19] rfl rfl (by kernel_rfl) (by kernel_rfl) (by kernel_rfl) (by kernel_rfl) (fun _ _ _ h => h) hS (Or.inl ⟨rfl, fun w1 hw1 => by obtain rfl := (hw1 : w1 = V); have d0 := HD0.out; have d1 := HD1.out; have e1 := HE1.out; have e2 := HE2.out; go_simp⟩) ?_
            simp only [Act.put, List.setIfInBounds_toArray, List.set_cons_zero, List.set_cons_succ]
            refine wpAnyK_takeTo 6 (some 23) (.pointer (some ⟨gb, 1, none⟩)) [7, 8, 9, 10, 11, 12, 13, 14, 15, 16, 17, 18, 19] rfl rfl (by kernel_rfl) (by kernel_rfl) (by kernel_rfl) (by kernel_rfl) (fun _ _ _ h => h) hS (Or.inl ⟨rfl, fun w1 hw1 => by obtain rfl := (hw1 : w1 = V); have d0 := HD0.out; have d1 := HD1.out; have e1 := HE1.out; have e2 := HE2.out; go_simp⟩) ?_
            simp only [Act.put, List.setIfInBounds_toArray, List.set_cons_zero, List.set_cons_succ]
            refine wpAnyK_takeTo 7 (some 24) (.int .i64 hi) [8, 9, 10, 11, 12, 13, 14, 15, 16, 17, 18, 19] rfl rfl (by kernel_rfl) (by kernel_rfl) (by kernel_rfl) (by kernel_rfl) (fun _ _ _ h => h) hS (Or.inl ⟨rfl, fun w1 hw1 => by obtain rfl := (hw1 : w1 = V); have d0 := HD0.out; have d1 := HD1.out; have e1 := HE1.out; have e2 := HE2.out; go_simp⟩) ?_
            simp only [Act.put, List.setIfInBounds_toArray, List.set_cons_zero, List.set_cons_succ]
            refine wpAnyK_takeTo 8 (some 25) (.bool true) [9, 10, 11, 12, 13, 14, 15, 16, 17, 18, 19] rfl rfl (by kernel_rfl) (by kernel_rfl) (by kernel_rfl) (by kernel_rfl) (fun _ _ _ h => h) hS (Or.inl ⟨rfl, fun w1 hw1 => by obtain rfl := (hw1 : w1 = V); have d0 := HD0.out; have d1 := HD1.out; have e1 := HE1.out; have e2 := HE2.out; go_simp⟩) ?_
            simp only [Act.put, List.setIfInBounds_toArray, List.set_cons_zero, List.set_cons_succ]
            refine wpAnyK_takeTo 9 (some 26) (.bool true) [10, 11, 12, 13, 14, 15, 16, 17, 18, 19] rfl rfl (by kernel_rfl) (by kernel_rfl) (by kernel_rfl) (by kernel_rfl) (fun _ _ _ h => h) hS (Or.inl ⟨rfl, fun w1 hw1 => by obtain rfl := (hw1 : w1 = V); have d0 := HD0.out; have d1 := HD1.out; have e1 := HE1.out; have e2 := HE2.out; go_simp⟩) ?_
            simp only [Act.put, List.setIfInBounds_toArray, List.set_cons_zero, List.set_cons_succ]
            refine wpAnyK_takeTo 10 (some 27) (.pointer (some ⟨gb, 0, none⟩)) [11, 18, 19] rfl rfl (by kernel_rfl) (by kernel_rfl) (by kernel_rfl) (by kernel_rfl) (fun _ _ _ h => h) hS (Or.inl ⟨rfl, fun w1 hw1 => by obtain rfl := (hw1 : w1 = V); have d0 := HD0.out; have d1 := HD1.out; have e1 := HE1.out; have e2 := HE2.out; go_simp⟩) ?_
            simp only [Act.put, List.setIfInBounds_toArray, List.set_cons_zero, List.set_cons_succ]
            refine wpAnyK_takeTo 11 (some 28) (.int .i64 lo) [18, 19] rfl rfl (by kernel_rfl) (by kernel_rfl) (by kernel_rfl) (by kernel_rfl) (fun _ _ _ h => h) hS (Or.inl ⟨rfl, fun w1 hw1 => by obtain rfl := (hw1 : w1 = V); have d0 := HD0.out; have d1 := HD1.out; have e1 := HE1.out; have e2 := HE2.out; go_simp⟩) ?_
            simp only [Act.put, List.setIfInBounds_toArray, List.set_cons_zero, List.set_cons_succ]
            refine wpAnyK_takeTo 12 (some 29) (.slice (some ⟨g, 0, none⟩) n c) [14, 15, 16, 17, 18, 19] rfl rfl (by kernel_rfl) (by kernel_rfl) (by kernel_rfl) (by kernel_rfl) (fun _ _ _ h => h) hS (Or.inl ⟨rfl, fun w1 hw1 => by obtain rfl := (hw1 : w1 = V); have d0 := HD0.out; have d1 := HD1.out; have e1 := HE1.out; have e2 := HE2.out; go_simp⟩) ?_
            simp only [Act.put, List.setIfInBounds_toArray, List.set_cons_zero, List.set_cons_succ]
            refine wpAnyK_takeTo 13 (some 30) (.int .i64 (k : Int)) [14, 15, 16, 17, 18, 19] rfl rfl (by kernel_rfl) (by kernel_rfl) (by kernel_rfl) (by kernel_rfl) (fun _ _ _ h => h) hS (Or.inl ⟨rfl, fun w1 hw1 => by obtain rfl := (hw1 : w1 = V); have d0 := HD0.out; have d1 := HD1.out; have e1 := HE1.out; have e2 := HE2.out; go_simp⟩) ?_
            simp only [Act.put, List.setIfInBounds_toArray, List.set_cons_zero, List.set_cons_succ]
            refine wpAnyK_takeTo 14 (some 31) (.pointer (some ⟨g, k * 3, none⟩)) [15, 16, 17, 18, 19] rfl rfl (by kernel_rfl) (by kernel_rfl) (by kernel_rfl) (by kernel_rfl) (fun _ _ _ h => h) hS (Or.inl ⟨rfl, fun w1 hw1 => by obtain rfl := (hw1 : w1 = V); have d0 := HD0.out; have d1 := HD1.out; have e1 := HE1.out; have e2 := HE2.out; go_simp⟩) ?_
            simp only [Act.put, List.setIfInBounds_toArray, List.set_cons_zero, List.set_cons_succ]
            refine wpAnyK_takeTo 15 (some 32) (.pointer (some ⟨g, k * 3 + 1, none⟩)) [16, 17, 18, 19] rfl rfl (by kernel_rfl) (by kernel_rfl) (by kernel_rfl) (by kernel_rfl) (fun _ _ _ h => h) hS (Or.inl ⟨rfl, fun w1 hw1 => by obtain rfl := (hw1 : w1 = V); have d0 := HD0.out; have d1 := HD1.out; have e1 := HE1.out; have e2 := HE2.out; go_simp⟩) ?_
            simp only [Act.put, List.setIfInBounds_toArray, List.set_cons_zero, List.set_cons_succ]
            refine wpAnyK_takeTo 16 (some 33) (.pointer (some ⟨g, k * 3 + 1 + 1, none⟩)) [17, 18, 19] rfl rfl (by kernel_rfl) (by kernel_rfl) (by kernel_rfl) (by kernel_rfl) (fun _ _ _ h => h) hS (Or.inl ⟨rfl, fun w1 hw1 => by obtain rfl := (hw1 : w1 = V); have d0 := HD0.out; have d1 := HD1.out; have e1 := HE1.out; have e2 := HE2.out; go_simp⟩) ?_
            simp only [Act.put, List.setIfInBounds_toArray, List.set_cons_zero, List.set_cons_succ]
            refine wpAnyK_takeTo 17 (some 34) (.int .i64 p.hi) [18, 19] rfl rfl (by kernel_rfl) (by kernel_rfl) (by kernel_rfl) (by kernel_rfl) (fun _ _ _ h => h) hS (Or.inl ⟨rfl, fun w1 hw1 => by obtain rfl := (hw1 : w1 = V); have d0 := HD0.out; have d1 := HD1.out; have e1 := HE1.out; have e2 := HE2.out; go_simp⟩) ?_
            simp only [Act.put, List.setIfInBounds_toArray, List.set_cons_zero, List.set_cons_succ]
            refine wpAnyK_takeTo 18 (some 35) (.bool true) [19] rfl rfl (by kernel_rfl) (by kernel_rfl) (by kernel_rfl) (by kernel_rfl) (fun _ _ _ h => h) hS (Or.inl ⟨rfl, fun w1 hw1 => by obtain rfl := (hw1 : w1 = V); have d0 := HD0.out; have d1 := HD1.out; have e1 := HE1.out; have e2 := HE2.out; go_simp⟩) ?_
            simp only [Act.put, List.setIfInBounds_toArray, List.set_cons_zero, List.set_cons_succ]
            refine wpAnyK_takeTo 19 (some 36) (.bool true) [] rfl rfl (by kernel_rfl) (by kernel_rfl) (by kernel_rfl) (by kernel_rfl) (fun _ _ _ h => h) hS (Or.inl ⟨rfl, fun w1 hw1 => by obtain rfl := (hw1 : w1 = V); have d0 := HD0.out; have d1 := HD1.out; have e1 := HE1.out; have e2 := HE2.out; go_simp⟩) ?_
            simp only [Act.put, List.setIfInBounds_toArray, List.set_cons_zero, List.set_cons_succ]
            clear hS
            refine wpAnyK_done (by kernel_rfl) ?_ _
            have e0 := HE0.out
            go_wp2_with fail
            refine HWI.out.mono ?_
            rintro e w8 ⟨v8, rfl, o8, f8, q8⟩
            have HO8 := hide o8
            have HF8 := hide ((HFV.out.trans f8).mono (Y := fun _ => False) (by simp))
            clear o8 f8 q8 HWI
            go_wp2
            go_roundw
            case rel => exact ⟨k + 1, by go_num, by omega, by rw [HS.out]; exact HO8.out, HF8.out⟩
            case measure => simp [intOf]; omega
          · have HS : Hid (insAll (hits ⟨lo, hi⟩ (L.take (k + 1))) = insAll (hits ⟨lo, hi⟩ (L.take k))) := hide (by rw [HTK.out, if_neg (fun h => hc2 h.2), List.append_nil])
            refine wpAnyK_takeTo 0 (some 17) (.slice (some ⟨g, 0, none⟩) n c) [2, 3, 4, 5, 8, 9, 10, 11, 12, 13, 14, 15, 16, 17, 18, 19] rfl rfl (by kernel_rfl) (by kernel_rfl) (by kernel_rfl) (by kernel_rfl) (fun _ _ _ h => h) hS (Or.inl ⟨rfl, fun w1 hw1 => by obtain rfl := (hw1 : w1 = V); have d0 := HD0.out; have d1 := HD1.out; have e1 := HE1.out; have e2 := HE2.out; go_simp⟩) ?_
            simp only [Act.put, List.setIfInBounds_toArray, List.set_cons_zero, List.set_cons_succ]
            refine wpAnyK_takeTo 1 (some 18) (.int .i64 (k : Int)) [2, 3, 4, 5, 8, 9, 10, 11, 12, 13, 14, 15, 16, 17, 18, 19] rfl rfl (by kernel_rfl) (by kernel_rfl) (by kernel_rfl) (by kernel_rfl) (fun _ _ _ h => h) hS (Or.inl ⟨rfl, fun w1 hw1 => by obtain rfl := (hw1 : w1 = V); have d0 := HD0.out; have d1 := HD1.out; have e1 := HE1.out; have e2 := HE2.out; go_simp⟩) ?_
            simp only [Act.put, List.setIfInBounds_toArray, List.set_cons_zero, List.set_cons_succ]
            refine wpAnyK_takeTo 2 (some 19) (.pointer (some ⟨g, k * 3, none⟩)) [3, 4, 5, 8, 9, 10, 11, 12, 13, 14, 15, 16, 17, 18, 19] rfl rfl (by kernel_rfl) (by kernel_rfl) (by kernel_rfl) (by kernel_rfl) (fun _ _ _ h => h) hS (Or.inl ⟨rfl, fun w1 hw1 => by obtain rfl := (hw1 : w1 = V); have d0 := HD0.out; have d1 := HD1.out; have e1 := HE1.out; have e2 := HE2.out; go_simp⟩) ?_
            simp only [Act.put, List.setIfInBounds_toArray, List.set_cons_zero, List.set_cons_succ]
            refine wpAnyK_takeTo 3 (some 20) (.pointer (some ⟨g, k * 3 + 1, none⟩)) [4, 5, 8, 9, 10, 11, 12, 13, 14, 15, 16, 17, 18, 19] rfl rfl (by kernel_rfl) (by kernel_rfl) (by kernel_rfl) (by kernel_rfl) (fun _ _ _ h => h) hS (Or.inl ⟨rfl, fun w1 hw1 => by obtain rfl := (hw1 : w1 = V); have d0 := HD0.out; have d1 := HD1.out; have e1 := HE1.out; have e2 := HE2.out; go_simp⟩) ?_
            simp only [Act.put, List.setIfInBounds_toArray, List.set_cons_zero, List.set_cons_succ]
            refine wpAnyK_takeTo 4 (some 21) (.pointer (some ⟨g, k * 3 + 1, none⟩)) [5, 8, 9, 10, 11, 12, 13, 14, 15, 16, 17, 18, 19] rfl rfl (by kernel_rfl) (by kernel_rfl) (by kernel_rfl) (by kernel_rfl) (fun _ _ _ h => h) hS (Or.inl ⟨rfl, fun w1 hw1 => by obtain rfl := (hw1 : w1 = V); have d0 := HD0.out; have d1 := HD1.out; have e1 := HE1.out; have e2 := HE2.out; go_simp⟩) ?_
            simp only [Act.put, List.setIfInBounds_toArray, List.set_cons_zero, List.set_cons_succ]
            refine wpAnyK_takeTo 5 (some 22) (.int .i64 p.lo) [8, 9, 10, 11, 12, 13, 14, 15, 16, 17, 18, 19] rfl rfl (by kernel_rfl) (by kernel_rfl) (by kernel_rfl) (by kernel_rfl) (fun _ _ _ h => h) hS (Or.inl ⟨rfl, fun w1 hw1 => by obtain rfl := (hw1 : w1 = V); have d0 := HD0.out; have d1 := HD1.out; have e1 := HE1.out; have e2 := HE2.out; go_simp⟩) ?_
            simp only [Act.put, List.setIfInBounds_toArray, List.set_cons_zero, List.set_cons_succ]
            refine wpAnyK_takeTo 6 (some 23) (.pointer (some ⟨gb, 1, none⟩)) [7, 8, 9, 10, 11, 12, 13, 14, 15, 16, 17, 18, 19] rfl rfl (by kernel_rfl) (by kernel_rfl) (by kernel_rfl) (by kernel_rfl) (fun _ _ _ h => h) hS (Or.inl ⟨rfl, fun w1 hw1 => by obtain rfl := (hw1 : w1 = V); have d0 := HD0.out; have d1 := HD1.out; have e1 := HE1.out; have e2 := HE2.out; go_simp⟩) ?_
            simp only [Act.put, List.setIfInBounds_toArray, List.set_cons_zero, List.set_cons_succ]
            refine wpAnyK_takeTo 7 (some 24) (.int .i64 hi) [8, 9, 10, 11, 12, 13, 14, 15, 16, 17, 18, 19] rfl rfl (by kernel_rfl) (by kernel_rfl) (by kernel_rfl) (by kernel_rfl) (fun _ _ _ h => h) hS (Or.inl ⟨rfl, fun w1 hw1 => by obtain rfl := (hw1 : w1 = V); have d0 := HD0.out; have d1 := HD1.out; have e1 := HE1.out; have e2 := HE2.out; go_simp⟩) ?_
            simp only [Act.put, List.setIfInBounds_toArray, List.set_cons_zero, List.set_cons_succ]
            refine wpAnyK_takeTo 8 (some 25) (.bool true) [9, 10, 11, 12, 13, 14, 15, 16, 17, 18, 19] rfl rfl (by kernel_rfl) (by kernel_rfl) (by kernel_rfl) (by kernel_rfl) (fun _ _ _ h => h) hS (Or.inl ⟨rfl, fun w1 hw1 => by obtain rfl := (hw1 : w1 = V); have d0 := HD0.out; have d1 := HD1.out; have e1 := HE1.out; have e2 := HE2.out; go_simp⟩) ?_
            simp only [Act.put, List.setIfInBounds_toArray, List.set_cons_zero, List.set_cons_succ]
            refine wpAnyK_takeTo 9 (some 26) (.bool true) [10, 11, 12, 13, 14, 15, 16, 17, 18, 19] rfl rfl (by kernel_rfl) (by kernel_rfl) (by kernel_rfl) (by kernel_rfl) (fun _ _ _ h => h) hS (Or.inl ⟨rfl, fun w1 hw1 => by obtain rfl := (hw1 : w1 = V); have d0 := HD0.out; have d1 := HD1.out; have e1 := HE1.out; have e2 := HE2.out; go_simp⟩) ?_
            simp only [Act.put, List.setIfInBounds_toArray, List.set_cons_zero, List.set_cons_succ]
            refine wpAnyK_takeTo 10 (some 27) (.pointer (some ⟨gb, 0, none⟩)) [11, 18, 19] rfl rfl (by kernel_rfl) (by kernel_rfl) (by kernel_rfl) (by kernel_rfl) (fun _ _ _ h => h) hS (Or.inl ⟨rfl, fun w1 hw1 => by obtain rfl := (hw1 : w1 = V); have d0 := HD0.out; have d1 := HD1.out; have e1 := HE1.out; have e2 := HE2.out; go_simp⟩) ?_
            simp only [Act.put, List.setIfInBounds_toArray, List.set_cons_zero, List.set_cons_succ]
            refine wpAnyK_takeTo 11 (some 28) (.int .i64 lo) [18, 19] rfl rfl (by kernel_rfl) (by kernel_rfl) (by kernel_rfl) (by kernel_rfl) (fun _ _ _ h => h) hS (Or.inl ⟨rfl, fun w1 hw1 => by obtain rfl := (hw1 : w1 = V); have d0 := HD0.out; have d1 := HD1.out; have e1 := HE1.out; have e2 := HE2.out; go_simp⟩) ?_
            simp only [Act.put, List.setIfInBounds_toArray, List.set_cons_zero, List.set_cons_succ]
            refine wpAnyK_takeTo 12 (some 29) (.slice (some ⟨g, 0, none⟩) n c) [14, 15, 16, 17, 18, 19] rfl rfl (by kernel_rfl) (by kernel_rfl) (by kernel_rfl) (by kernel_rfl) (fun _ _ _ h => h) hS (Or.inl ⟨rfl, fun w1 hw1 => by obtain rfl := (hw1 : w1 = V); have d0 := HD0.out; have d1 := HD1.out; have e1 := HE1.out; have e2 := HE2.out; go_simp⟩) ?_
            simp only [Act.put, List.setIfInBounds_toArray, List.set_cons_zero, List.set_cons_succ]
            refine wpAnyK_takeTo 13 (some 30) (.int .i64 (k : Int)) [14, 15, 16, 17, 18, 19] rfl rfl (by kernel_rfl) (by kernel_rfl) (by kernel_rfl) (by kernel_rfl) (fun _ _ _ h => h) hS (Or.inl ⟨rfl, fun w1 hw1 => by obtain rfl := (hw1 : w1 = V); have d0 := HD0.out; have d1 := HD1.out; have e1 := HE1.out; have e2 := HE2.out; go_simp⟩) ?_
            simp only [Act.put, List.setIfInBounds_toArray, List.set_cons_zero, List.set_cons_succ]
            refine wpAnyK_takeTo 14 (some 31) (.pointer (some ⟨g, k * 3, none⟩)) [15, 16, 17, 18, 19] rfl rfl (by kernel_rfl) (by kernel_rfl) (by kernel_rfl) (by kernel_rfl) (fun _ _ _ h => h) hS (Or.inl ⟨rfl, fun w1 hw1 => by obtain rfl := (hw1 : w1 = V); have d0 := HD0.out; have d1 := HD1.out; have e1 := HE1.out; have e2 := HE2.out; go_simp⟩) ?_
            simp only [Act.put, List.setIfInBounds_toArray, List.set_cons_zero, List.set_cons_succ]
            refine wpAnyK_takeTo 15 (some 32) (.pointer (some ⟨g, k * 3 + 1, none⟩)) [16, 17, 18, 19] rfl rfl (by kernel_rfl) (by kernel_rfl) (by kernel_rfl) (by kernel_rfl) (fun _ _ _ h => h) hS (Or.inl ⟨rfl, fun w1 hw1 => by obtain rfl := (hw1 : w1 = V); have d0 := HD0.out; have d1 := HD1.out; have e1 := HE1.out; have e2 := HE2.out; go_simp⟩) ?_
            simp only [Act.put, List.setIfInBounds_toArray, List.set_cons_zero, List.set_cons_succ]
            refine wpAnyK_takeTo 16 (some 33) (.pointer (some ⟨g, k * 3 + 1 + 1, none⟩)) [17, 18, 19] rfl rfl (by kernel_rfl) (by kernel_rfl) (by kernel_rfl) (by kernel_rfl) (fun _ _ _ h => h) hS (Or.inl ⟨rfl, fun w1 hw1 => by obtain rfl := (hw1 : w1 = V); have d0 := HD0.out; have d1 := HD1.out; have e1 := HE1.out; have e2 := HE2.out; go_simp⟩) ?_
            simp only [Act.put, List.setIfInBounds_toArray, List.set_cons_zero, List.set_cons_succ]
            refine wpAnyK_takeTo 17 (some 34) (.int .i64 p.hi) [18, 19] rfl rfl (by kernel_rfl) (by kernel_rfl) (by kernel_rfl) (by kernel_rfl) (fun _ _ _ h => h) hS (Or.inl ⟨rfl, fun w1 hw1 => by obtain rfl := (hw1 : w1 = V); have d0 := HD0.out; have d1 := HD1.out; have e1 := HE1.out; have e2 := HE2.out; go_simp⟩) ?_
            simp only [Act.put, List.setIfInBounds_toArray, List.set_cons_zero, List.set_cons_succ]
            refine wpAnyK_takeTo 18 (some 35) (.bool false) [19] rfl rfl (by kernel_rfl) (by kernel_rfl) (by kernel_rfl) (by kernel_rfl) (fun _ _ _ h => h) hS (Or.inl ⟨rfl, fun w1 hw1 => by obtain rfl := (hw1 : w1 = V); have d0 := HD0.out; have d1 := HD1.out; have e1 := HE1.out; have e2 := HE2.out; go_simp⟩) ?_
            simp only [Act.put, List.setIfInBounds_toArray, List.set_cons_zero, List.set_cons_succ]
            refine wpAnyK_takeTo 19 (some 36) (.bool false) [] rfl rfl (by kernel_rfl) (by kernel_rfl) (by kernel_rfl) (by kernel_rfl) (fun _ _ _ h => h) hS (Or.inl ⟨rfl, fun w1 hw1 => by obtain rfl := (hw1 : w1 = V); have d0 := HD0.out; have d1 := HD1.out; have e1 := HE1.out; have e2 := HE2.out; go_simp⟩) ?_
            simp only [Act.put, List.setIfInBounds_toArray, List.set_cons_zero, List.set_cons_succ]
            clear hS
            refine wpAnyK_done (by kernel_rfl) ?_ _
            go_wp2
            go_roundw
            case rel => exact ⟨k + 1, by go_num, by omega, by rw [HS.out]; exact HO.out, HFV.out⟩
            case measure => simp [intOf]; omega
        · have HS : Hid (insAll (hits ⟨lo, hi⟩ (L.take (k + 1))) = insAll (hits ⟨lo, hi⟩ (L.take k))) := hide (by rw [HTK.out, if_neg (fun h => hc1 h.1), List.append_nil])
          refine wpAnyK_takeTo 0 (some 17) (.slice (some ⟨g, 0, none⟩) n c) [2, 3, 4, 5, 8, 9, 10, 11, 12, 13, 14, 15, 16, 17, 18, 19] rfl rfl (by kernel_rfl) (by kernel_rfl) (by kernel_rfl) (by kernel_rfl) (fun _ _ _ h => h) hS (Or.inl ⟨rfl, fun w1 hw1 => by obtain rfl := (hw1 : w1 = V); have d0 := HD0.out; have d1 := HD1.out; have e1 := HE1.out; have e2 := HE2.out; go_simp⟩) ?_
          simp only [Act.put, List.setIfInBounds_toArray, List.set_cons_zero, List.set_cons_succ]
          refine wpAnyK_takeTo 1 (some 18) (.int .i64 (k : Int)) [2, 3, 4, 5, 8, 9, 10, 11, 12, 13, 14, 15, 16, 17, 18, 19] rfl rfl (by kernel_rfl) (by kernel_rfl) (by kernel_rfl) (by kernel_rfl) (fun _ _ _ h => h) hS (Or.inl ⟨rfl, fun w1 hw1 => by obtain rfl := (hw1 : w1 = V); have d0 := HD0.out; have d1 := HD1.out; have e1 := HE1.out; have e2 := HE2.out; go_simp⟩) ?_
          simp only [Act.put, List.setIfInBounds_toArray, List.set_cons_zero, List.set_cons_succ]
          refine wpAnyK_takeTo 2 (some 19) (.pointer (some ⟨g, k * 3, none⟩)) [3, 4, 5, 8, 9, 10, 11, 12, 13, 14, 15, 16, 17, 18, 19] rfl rfl (by kernel_rfl) (by kernel_rfl) (by kernel_rfl) (by kernel_rfl) (fun _ _ _ h => h) hS (Or.inl ⟨rfl, fun w1 hw1 => by obtain rfl := (hw1 : w1 = V); have d0 := HD0.out; have d1 := HD1.out; have e1 := HE1.out; have e2 := HE2.out; go_simp⟩) ?_
          simp only [Act.put, List.setIfInBounds_toArray, List.set_cons_zero, List.set_cons_succ]
          refine wpAnyK_takeTo 3 (some 20) (.pointer (some ⟨g, k * 3 + 1, none⟩)) [4, 5, 8, 9, 10, 11, 12, 13, 14, 15, 16, 17, 18, 19] rfl rfl (by kernel_rfl) (by kernel_rfl) (by kernel_rfl) (by kernel_rfl) (fun _ _ _ h => h) hS (Or.inl ⟨rfl, fun w1 hw1 => by obtain rfl := (hw1 : w1 = V); have d0 := HD0.out; have d1 := HD1.out; have e1 := HE1.out; have e2 := HE2.out; go_simp⟩) ?_
          simp only [Act.put, List.setIfInBounds_toArray, List.set_cons_zero, List.set_cons_succ]
          refine wpAnyK_takeTo 4 (some 21) (.pointer (some ⟨g, k * 3 + 1, none⟩)) [5, 8, 9, 10, 11, 12, 13, 14, 15, 16, 17, 18, 19] rfl rfl (by kernel_rfl) (by kernel_rfl) (by kernel_rfl) (by kernel_rfl) (fun _ _ _ h => h) hS (Or.inl ⟨rfl, fun w1 hw1 => by obtain rfl := (hw1 : w1 = V); have d0 := HD0.out; have d1 := HD1.out; have e1 := HE1.out; have e2 := HE2.out; go_simp⟩) ?_
          simp only [Act.put, List.setIfInBounds_toArray, List.set_cons_zero, List.set_cons_succ]
          refine wpAnyK_takeTo 5 (some 22) (.int .i64 p.lo) [8, 9, 10, 11, 12, 13, 14, 15, 16, 17, 18, 19] rfl rfl (by kernel_rfl) (by kernel_rfl) (by kernel_rfl) (by kernel_rfl) (fun _ _ _ h => h) hS (Or.inl ⟨rfl, fun w1 hw1 => by obtain rfl := (hw1 : w1 = V); have d0 := HD0.out; have d1 := HD1.out; have e1 := HE1.out; have e2 := HE2.out; go_simp⟩) ?_
          simp only [Act.put, List.setIfInBounds_toArray, List.set_cons_zero, List.set_cons_succ]
          refine wpAnyK_takeTo 6 (some 23) (.pointer (some ⟨gb, 1, none⟩)) [7, 8, 9, 10, 11, 12, 13, 14, 15, 16, 17, 18, 19] rfl rfl (by kernel_rfl) (by kernel_rfl) (by kernel_rfl) (by kernel_rfl) (fun _ _ _ h => h) hS (Or.inl ⟨rfl, fun w1 hw1 => by obtain rfl := (hw1 : w1 = V); have d0 := HD0.out; have d1 := HD1.out; have e1 := HE1.out; have e2 := HE2.out; go_simp⟩) ?_
          simp only [Act.put, List.setIfInBounds_toArray, List.set_cons_zero, List.set_cons_succ]
          refine wpAnyK_takeTo 7 (some 24) (.int .i64 hi) [8, 9, 10, 11, 12, 13, 14, 15, 16, 17, 18, 19] rfl rfl (by kernel_rfl) (by kernel_rfl) (by kernel_rfl) (by kernel_rfl) (fun _ _ _ h => h) hS (Or.inl ⟨rfl, fun w1 hw1 => by obtain rfl := (hw1 : w1 = V); have d0 := HD0.out; have d1 := HD1.out; have e1 := HE1.out; have e2 := HE2.out; go_simp⟩) ?_
          simp only [Act.put, List.setIfInBounds_toArray, List.set_cons_zero, List.set_cons_succ]
          refine wpAnyK_takeTo 8 (some 25) (.bool false) [9, 10, 11, 12, 13, 14, 15, 16, 17, 18, 19] rfl rfl (by kernel_rfl) (by kernel_rfl) (by kernel_rfl) (by kernel_rfl) (fun _ _ _ h => h) hS (Or.inl ⟨rfl, fun w1 hw1 => by obtain rfl := (hw1 : w1 = V); have d0 := HD0.out; have d1 := HD1.out; have e1 := HE1.out; have e2 := HE2.out; go_simp⟩) ?_
          simp only [Act.put, List.setIfInBounds_toArray, List.set_cons_zero, List.set_cons_succ]
          refine wpAnyK_takeTo 9 (some 26) (.bool false) [10, 11, 12, 13, 14, 15, 16, 17, 18, 19] rfl rfl (by kernel_rfl) (by kernel_rfl) (by kernel_rfl) (by kernel_rfl) (fun _ _ _ h => h) hS (Or.inl ⟨rfl, fun w1 hw1 => by obtain rfl := (hw1 : w1 = V); have d0 := HD0.out; have d1 := HD1.out; have e1 := HE1.out; have e2 := HE2.out; go_simp⟩) ?_
          simp only [Act.put, List.setIfInBounds_toArray, List.set_cons_zero, List.set_cons_succ]
          refine wpAnyK_takeTo 10 (some 27) (undef) [11, 18, 19] rfl rfl (by kernel_rfl) (by kernel_rfl) (by kernel_rfl) (by kernel_rfl) (fun _ _ _ h => h) hS (Or.inr ⟨rfl, rfl⟩) ?_
          simp only [Act.put, List.setIfInBounds_toArray, List.set_cons_zero, List.set_cons_succ]
          refine wpAnyK_takeTo 11 (some 28) (undef) [18, 19] rfl rfl (by kernel_rfl) (by kernel_rfl) (by kernel_rfl) (by kernel_rfl) (fun _ _ _ h => h) hS (Or.inr ⟨rfl, rfl⟩) ?_
          simp only [Act.put, List.setIfInBounds_toArray, List.set_cons_zero, List.set_cons_succ]
          refine wpAnyK_takeTo 12 (some 29) (undef) [14, 15, 16, 17, 18, 19] rfl rfl (by kernel_rfl) (by kernel_rfl) (by kernel_rfl) (by kernel_rfl) (fun _ _ _ h => h) hS (Or.inr ⟨rfl, rfl⟩) ?_
          simp only [Act.put, List.setIfInBounds_toArray, List.set_cons_zero, List.set_cons_succ]
          refine wpAnyK_takeTo 13 (some 30) (undef) [14, 15, 16, 17, 18, 19] rfl rfl (by kernel_rfl) (by kernel_rfl) (by kernel_rfl) (by kernel_rfl) (fun _ _ _ h => h) hS (Or.inr ⟨rfl, rfl⟩) ?_
          simp only [Act.put, List.setIfInBounds_toArray, List.set_cons_zero, List.set_cons_succ]
          refine wpAnyK_takeTo 14 (some 31) (undef) [15, 16, 17, 18, 19] rfl rfl (by kernel_rfl) (by kernel_rfl) (by kernel_rfl) (by kernel_rfl) (fun _ _ _ h => h) hS (Or.inr ⟨rfl, rfl⟩) ?_
          simp only [Act.put, List.setIfInBounds_toArray, List.set_cons_zero, List.set_cons_succ]
          refine wpAnyK_takeTo 15 (some 32) (undef) [16, 17, 18, 19] rfl rfl (by kernel_rfl) (by kernel_rfl) (by kernel_rfl) (by kernel_rfl) (fun _ _ _ h => h) hS (Or.inr ⟨rfl, rfl⟩) ?_
          simp only [Act.put, List.setIfInBounds_toArray, List.set_cons_zero, List.set_cons_succ]
          refine wpAnyK_takeTo 16 (some 33) (undef) [17, 18, 19] rfl rfl (by kernel_rfl) (by kernel_rfl) (by kernel_rfl) (by kernel_rfl) (fun _ _ _ h => h) hS (Or.inr ⟨rfl, rfl⟩) ?_
          simp only [Act.put, List.setIfInBounds_toArray, List.set_cons_zero, List.set_cons_succ]
          refine wpAnyK_takeTo 17 (some 34) (undef) [18, 19] rfl rfl (by kernel_rfl) (by kernel_rfl) (by kernel_rfl) (by kernel_rfl) (fun _ _ _ h => h) hS (Or.inr ⟨rfl, rfl⟩) ?_
          simp only [Act.put, List.setIfInBounds_toArray, List.set_cons_zero, List.set_cons_succ]
          refine wpAnyK_takeTo 18 (some 35) (undef) [19] rfl rfl (by kernel_rfl) (by kernel_rfl) (by kernel_rfl) (by kernel_rfl) (fun _ _ _ h => h) hS (Or.inr ⟨rfl, rfl⟩) ?_
          simp only [Act.put, List.setIfInBounds_toArray, List.set_cons_zero, List.set_cons_succ]
          refine wpAnyK_takeTo 19 (some 36) (.bool false) [] rfl rfl (by kernel_rfl) (by kernel_rfl) (by kernel_rfl) (by kernel_rfl) (fun _ _ _ h => h) hS (Or.inl ⟨rfl, fun w1 hw1 => by obtain rfl := (hw1 : w1 = V); have d0 := HD0.out; have d1 := HD1.out; have e1 := HE1.out; have e2 := HE2.out; go_simp⟩) ?_
          simp only [Act.put, List.setIfInBounds_toArray, List.set_cons_zero, List.set_cons_succ]
          clear hS
          refine wpAnyK_done (by kernel_rfl) ?_ _
          go_wp2
          go_roundw
          case rel => exact ⟨k + 1, by go_num, by omega, by rw [HS.out]; exact HO.out, HFV.out⟩
          case measure => simp [intOf]; omega
      · obtain rfl : k = n := by omega
        have HRES : Hid (Q (.returned (.tuple #[u6, .int .i64 0])) w7) := hide (by
          rw [HQQ.out]
          have h := HO.out
          rw [List.take_of_length_le (by rw [HN.out]; exact Nat.le_refl _)] at h
          exact ⟨_, _, by rw [HCODE.out], h, fun _ => rfl, fun h2 => by have := HR.out; rw [h2] at this; (cases this), (HF.out.trans HFF.out).mono (by simp)⟩)
        go_wp2
        first | exact HRES.out | (go_ret; exact HRES.out)
  · have hr' : rightB ⟨lo, hi⟩ = false := by simpa using hr
    have HRES : Hid (Q (.returned (.tuple #[.slice none 0 0, .int .i64 40])) w2) := hide (by
      rw [HQQ.out]
      exact ⟨_, [], by rw [codeP_no _ hr'], OwnI.nil _, fun h => absurd h hr, fun _ => rfl, HF.out⟩)
    rw [hr']
    clear hr hr'
    go_wp2
    first | exact HRES.out | (go_ret; exact HRES.out)
end Go.Proofs.Ytanfbfmpppfbhaa
