/- A number put into a rising list, plainly. -/
import Derived.Test.YtanfbfmpppfbhaaJz
import Derived.Test.YtanfbfmpppfbhaaKr
namespace Go.Proofs.Ytanfbfmpppfbhaa
open Go.RowKit
set_option linter.unusedVariables false

/-- A number goes ahead of the first that is greater. -/
def ins (n : Int) : List Int → List Int
  | [] => [n]
  | x :: l => if n < x then n :: x :: l else x :: ins n l
theorem mem_ins {n x : Int} : ∀ {l : List Int}, x ∈ ins n l ↔ x = n ∨ x ∈ l
  | [] => by simp [ins]
  | y :: l => by
    unfold ins
    split
    · simp
    · rw [List.mem_cons, mem_ins, List.mem_cons]
      constructor
      · rintro (h | h | h)
        · exact .inr (.inl h)
        · exact .inl h
        · exact .inr (.inr h)
      · rintro (h | h | h)
        · exact .inr (.inl h)
        · exact .inl h
        · exact .inr (.inr h)
theorem length_ins {n : Int} : ∀ {l : List Int}, (ins n l).length = l.length + 1
  | [] => rfl
  | y :: l => by
    unfold ins
    split
    · rfl
    · rw [List.length_cons, length_ins, List.length_cons]
theorem rising_ins {n : Int} : ∀ {l : List Int}, l.Pairwise (· < ·) → n ∉ l → (ins n l).Pairwise (· < ·)
  | [], _, _ => by simp [ins]
  | y :: l, h, hn => by
    obtain ⟨h1, h2⟩ := List.pairwise_cons.1 h
    unfold ins
    split
    · rename_i hlt
      exact List.pairwise_cons.2 ⟨fun z hz => by rcases List.mem_cons.1 hz with rfl | hz; exact hlt; exact Int.lt_trans hlt (h1 z hz), h⟩
    · rename_i hlt
      refine List.pairwise_cons.2 ⟨fun z hz => ?_, rising_ins h2 (fun h => hn (List.mem_cons_of_mem _ h))⟩
      rcases mem_ins.1 hz with rfl | hz
      · have : z ≠ y := fun e => hn (by rw [e]; exact List.mem_cons_self ..)
        omega
      · exact h1 z hz
/-- Numbers put in, one after the other. -/
def insAll (L : List Int) : List Int := L.foldl (fun a n => ins n a) []
theorem insAll_nil : insAll [] = [] := rfl
theorem insAll_snoc (L : List Int) (n : Int) : insAll (L ++ [n]) = ins n (insAll L) := by unfold insAll; rw [List.foldl_append]; rfl
theorem insAll_all (L : List Int) : ((∀ x, x ∈ insAll L ↔ x ∈ L) ∧ (insAll L).length = L.length) ∧ (L.Nodup → (insAll L).Pairwise (· < ·)) := by
  suffices h : ∀ (L a : List Int), (∀ x, x ∈ L.foldl (fun a n => ins n a) a ↔ x ∈ L ∨ x ∈ a) ∧ (L.foldl (fun a n => ins n a) a).length = L.length + a.length ∧ (L.Nodup → (∀ x ∈ L, x ∉ a) → a.Pairwise (· < ·) → (L.foldl (fun a n => ins n a) a).Pairwise (· < ·)) by
    obtain ⟨h1, h2, h3⟩ := h L []
    exact ⟨⟨fun x => by unfold insAll; rw [h1]; simp, by unfold insAll; rw [h2]; simp⟩, fun hn => h3 hn (by simp) List.Pairwise.nil⟩
  intro L
  induction L with
  | nil => intro a; exact ⟨by simp, by simp, fun _ _ h => h⟩
  | cons n L ih =>
    intro a
    obtain ⟨h1, h2, h3⟩ := ih (ins n a)
    rw [List.foldl_cons]
    refine ⟨fun x => ?_, ?_, fun hn hx ha => ?_⟩
    · rw [h1, mem_ins, List.mem_cons]
      constructor
      · rintro (h | h | h)
        · exact .inl (.inr h)
        · exact .inl (.inl h)
        · exact .inr h
      · rintro ((h | h) | h)
        · exact .inr (.inl h)
        · exact .inl h
        · exact .inr (.inr h)
    · rw [h2, length_ins, List.length_cons]; omega
    · obtain ⟨n1, n2⟩ := List.nodup_cons.1 hn
      refine h3 n2 (fun x hxL hxi => ?_) (rising_ins ha (hx n (List.mem_cons_self ..)))
      rcases mem_ins.1 hxi with rfl | hxi
      · exact n1 hxL
      · exact hx x (List.mem_cons_of_mem _ hxL) hxi
theorem insAll_srt {L : List Int} (h : L.Nodup) : insAll L = srt L :=
  rising_ext ((insAll_all L).2 h) (srt_rising h) (fun x => ((insAll_all L).1.1 x).trans (List.Perm.mem_iff (srt_perm L)).symm)
theorem insAll_len (L : List Int) : (insAll L).length = L.length := (insAll_all L).1.2
/-- The numbers of those periods that overlap one. -/
def hits (q : Per) (L : List Itm) : List Int := (L.filter (fun p => decide (p.lo < q.hi ∧ q.lo < p.hi))).map Itm.id
theorem hits_snoc (q : Per) (L : List Itm) (p : Itm) : hits q (L ++ [p]) = hits q L ++ (if p.lo < q.hi ∧ q.lo < p.hi then [p.id] else []) := by
  unfold hits
  rw [List.filter_append, List.map_append]
  congr 1
  by_cases h : p.lo < q.hi ∧ q.lo < p.hi
  · rw [List.filter_cons_of_pos (by simpa using h), if_pos h]; rfl
  · rw [List.filter_cons_of_neg (by simpa using h), if_neg h]; rfl
theorem hits_ova {q : Per} {L : List Itm} (hI : Ids L) : OvA L q (insAll (hits q L)) := by
  refine ⟨(insAll_all _).2 ?_, fun i => ?_⟩
  · unfold hits
    have : (L.filter (fun p => decide (p.lo < q.hi ∧ q.lo < p.hi))).Pairwise (fun a b => a.id ≠ b.id) := hI.sublist List.filter_sublist
    exact List.pairwise_map.2 this
  · rw [(insAll_all _).1.1]
    unfold hits
    rw [List.mem_map]
    constructor
    · rintro ⟨p, hp, rfl⟩
      obtain ⟨h1, h2⟩ := List.mem_filter.1 hp
      have h2 := of_decide_eq_true h2
      exact ⟨p, h1, rfl, h2.1, h2.2⟩
    · rintro ⟨p, h1, rfl, h2⟩
      exact ⟨p, List.mem_filter.2 ⟨h1, decide_eq_true h2⟩, rfl⟩
end Go.Proofs.Ytanfbfmpppfbhaa

/- A number put into a rising list of the call's own; two lists compared. -/
namespace Go.Proofs.Ytanfbfmpppfbhaa
open Go.RowKit
set_option maxRecDepth 100000
set_option linter.unusedVariables false
set_option linter.unusedSimpArgs false

def WithQ (w : World) (n : Int) (L : List Int) (e : Ending) (w' : World) : Prop := ∃ v', e = .returned v' ∧ OwnI w' v' (ins n L) ∧ Fr w w' (fun _ => False) ∧ ∀ k, v'.ownBlock = some k → w.heap.size ≤ k
set_option maxHeartbeats 2000000 in
theorem with_any {w : World} {v : Value} {L : List Int} (h : OwnI w v L) (n : Int) (hl : L.length ≤ 4398046511104) : Calls Try.prog 31 #[v, .int .i64 n] w (WithQ w n L) := by
  obtain ⟨Q, hQ⟩ : ∃ Q, Q = WithQ w n L := ⟨_, rfl⟩
  rw [← hQ]
  have HQQ := hide hQ
  have HT := hide h
  obtain ⟨a, c, rfl, _⟩ := h.shape
  obtain ⟨m, hm⟩ : ∃ m, m = L.length := ⟨_, rfl⟩
  rw [← hm] at HT ⊢
  have HM := hide hm
  have hl2 : m ≤ 4398046511104 := by omega
  have HL : Hid (m ≤ 4398046511104) := hide hl2
  clear h hQ hm hl
  go_enter Try.func31, Try.ntmps31
  go_wp2
  go_loopw [5, 6, 7] (fun o d i wr => ∃ (k : Nat) (b : Bool) (O : List Int), i = .int .i64 (k : Int) ∧ k ≤ m ∧ d = .bool b ∧ OwnI wr o O ∧ O ++ (if b = true then L.drop k else ins n (L.drop k)) = ins n L ∧ O.length = k + (if b = true then 1 else 0) ∧ Fr w wr (fun _ => False) ∧ (∀ q, o.ownBlock = some q → w.heap.size ≤ q)) (fun _ _ i _ => m - (intOf i).toNat)
  case atStart => exact ⟨0, false, [], rfl, Nat.zero_le _, rfl, OwnI.nil w, rfl, rfl, Fr.refl _ _, fun k hk => by cases hk⟩
  case round =>
    rename World => w7
    obtain ⟨k, b, O, rfl, hk, rfl, ho, hO, hOl, hf, hq⟩ := hrel
    have HO := hide ho
    have HE := hide hO
    have HOL := hide hOl
    have HF := hide hf
    have HQ := hide hq
    clear ho hO hOl hf hq
    by_cases hlt : k < m
    · obtain ⟨x, hx⟩ : ∃ x, L[k]? = some x := ⟨_, List.getElem?_eq_getElem (by rw [← HM.out]; exact hlt)⟩
      obtain ⟨ga, rfl, cv⟩ := (HT.out.fr HF.out (fun _ _ h => h)).at k x hx
      have HD : Hid (L.drop k = x :: L.drop (k + 1)) := hide (by
        rw [List.drop_eq_getElem_cons (by rw [← HM.out]; exact hlt)]
        congr 1
        rw [List.getElem?_eq_getElem (by rw [← HM.out]; exact hlt)] at hx
        exact Option.some.inj hx)
      have HX := hide hx
      clear hx
      have HLT := hide hlt
      cases b with
      | true =>
        go_wp2_with (refine wpList_pushI rfl (.tmp 28) (.tmp 33) rfl u5 _ rfl HO.out [x] _ 1 1 rfl rfl rfl (by rw [List.length_singleton]; have h1 := HOL.out; have := HL.out; simp at h1; omega) _ rfl ?_; intro v2 W2 o2 f2 r2; have HO2 := hide o2; have HF2 := hide ((HF.out.trans f2).mono (Y := fun _ => False) (fun q hq h => by rcases h with h | h; exact h; (have := HQ.out q h; omega))); have HQ2 := hide (show ∀ q, v2.ownBlock = some q → w.heap.size ≤ q from fun q hq => by rcases r2 with h1 | ⟨k, h1, h2⟩; exact HQ.out q (h1 ▸ hq); rw [hq] at h1; cases h1; (have := HF.out.size; omega)); clear o2 f2 r2)
        go_roundw
        case rel => exact ⟨k + 1, true, O ++ [x], by go_num, by omega, rfl, HO2.out, by have h := HE.out; rw [HD.out] at h; rw [← h]; simp, by rw [List.length_append, List.length_singleton]; have h1 := HOL.out; simp at h1 ⊢; omega, HF2.out, HQ2.out⟩
        case measure => simp [intOf]; omega
      | false =>
        by_cases hnx : n < x
        · have hd : decide (n < x) = true := by simpa using hnx
          have HNX := hide hnx
          clear hnx
          go_wp2_with first | (refine wpList_pushI rfl (.tmp 24) (.tmp 26) rfl u5 _ rfl HO.out [n] _ 1 1 rfl rfl rfl (by rw [List.length_singleton]; have h1 := HOL.out; have := HL.out; simp at h1; omega) _ rfl ?_; intro v2 W2 o2 f2 r2; have HO2 := hide o2; have HF2 := hide ((HF.out.trans f2).mono (Y := fun _ => False) (fun q hq h => by rcases h with h | h; exact h; (have := HQ.out q h; omega))); have HQ2 := hide (show ∀ q, v2.ownBlock = some q → w.heap.size ≤ q from fun q hq => by rcases r2 with h1 | ⟨k, h1, h2⟩; exact HQ.out q (h1 ▸ hq); rw [hq] at h1; cases h1; (have := HF.out.size; omega)); clear o2 f2 r2; obtain ⟨_, e2, cv2⟩ := (HT.out.fr HF2.out (fun _ _ h => h)).at k x HX.out; cases e2) | (refine wpList_pushI rfl (.tmp 28) (.tmp 33) rfl v2 _ rfl HO2.out [x] _ 1 1 rfl rfl rfl (by rw [List.length_append, List.length_singleton, List.length_singleton]; have h1 := HOL.out; have := HL.out; simp at h1; omega) _ rfl ?_; intro v3 W3 o3 f3 r3; have HO3 := hide o3; have HF3 := hide ((HF2.out.trans f3).mono (Y := fun _ => False) (fun q hq h => by rcases h with h | h; exact h; (have := HQ2.out q h; omega))); have HQ3 := hide (show ∀ q, v3.ownBlock = some q → w.heap.size ≤ q from fun q hq => by rcases r3 with h1 | ⟨k, h1, h2⟩; exact HQ2.out q (h1 ▸ hq); rw [hq] at h1; cases h1; (have := HF2.out.size; omega)); clear o3 f3 r3)
          go_roundw
          case rel => exact ⟨k + 1, true, O ++ [n] ++ [x], by go_num, by omega, rfl, HO3.out, by have h := HE.out; rw [HD.out] at h; rw [← h]; simp [ins, HNX.out], by rw [List.length_append, List.length_append, List.length_singleton, List.length_singleton]; have h1 := HOL.out; simp at h1 ⊢; omega, HF3.out, HQ3.out⟩
          case measure => simp [intOf]; omega
        · have hd : decide (n < x) = false := by simpa using hnx
          have HNX := hide hnx
          clear hnx
          go_wp2_with (refine wpList_pushI rfl (.tmp 28) (.tmp 33) rfl u5 _ rfl HO.out [x] _ 1 1 rfl rfl rfl (by rw [List.length_singleton]; have h1 := HOL.out; have := HL.out; simp at h1; omega) _ rfl ?_; intro v2 W2 o2 f2 r2; have HO2 := hide o2; have HF2 := hide ((HF.out.trans f2).mono (Y := fun _ => False) (fun q hq h => by rcases h with h | h; exact h; (have := HQ.out q h; omega))); have HQ2 := hide (show ∀ q, v2.ownBlock = some q → w.heap.size ≤ q from fun q hq => by rcases r2 with h1 | ⟨k, h1, h2⟩; exact HQ.out q (h1 ▸ hq); rw [hq] at h1; cases h1; (have := HF.out.size; omega)); clear o2 f2 r2)
          go_roundw
          case rel => exact ⟨k + 1, false, O ++ [x], by go_num, by omega, rfl, HO2.out, by have h := HE.out; rw [HD.out] at h; rw [← h]; simp [ins, HNX.out], by rw [List.length_append, List.length_singleton]; have h1 := HOL.out; simp at h1 ⊢; omega, HF2.out, HQ2.out⟩
          case measure => simp [intOf]; omega
    · obtain rfl : k = m := by omega
      have hdr : L.drop k = [] := List.drop_eq_nil_of_le (by rw [← HM.out]; exact Nat.le_refl _)
      cases b with
      | true =>
        have HRES : Hid (Q (.returned u5) w7) := hide (by
          rw [HQQ.out]
          have h := HE.out
          rw [hdr] at h
          simp only [if_true, List.append_nil] at h
          exact ⟨_, rfl, h ▸ HO.out, HF.out, HQ.out⟩)
        clear hdr
        go_wp2
        first | exact HRES.out | (go_ret; exact HRES.out)
      | false =>
        have hins : O ++ [n] = ins n L := by
          have h := HE.out
          rw [hdr] at h
          exact h
        have HI := hide hins
        clear hdr hins hlt
        go_wp2_with (refine wpList_pushI rfl (.tmp 37) (.tmp 39) rfl u5 _ rfl HO.out [n] _ 1 1 rfl rfl rfl (by rw [List.length_singleton]; have h1 := HOL.out; have := HL.out; simp at h1; omega) _ rfl ?_; intro v2 W2 o2 f2 r2; have HO2 := hide o2; have HF2 := hide ((HF.out.trans f2).mono (Y := fun _ => False) (fun q hq h => by rcases h with h | h; exact h; (have := HQ.out q h; omega))); have HQ2 := hide (show ∀ q, v2.ownBlock = some q → w.heap.size ≤ q from fun q hq => by rcases r2 with h1 | ⟨k, h1, h2⟩; exact HQ.out q (h1 ▸ hq); rw [hq] at h1; cases h1; (have := HF.out.size; omega)); clear o2 f2 r2)
        have HRES : Hid (Q (.returned v2) W2) := hide (by
          rw [HQQ.out]
          exact ⟨_, rfl, HI.out ▸ HO2.out, HF2.out, HQ2.out⟩)
        first | exact HRES.out | (go_ret; exact HRES.out)

theorem OwnI.bound {w : World} {v : Value} {L : List Int} (h : OwnI w v L) : L.length ≤ 9223372036854775807 := by
  rcases h.2 with ⟨h1, h2⟩ | ⟨g, cap, cur, hv, _, _, hle, hmx, _⟩
  · omega
  · unfold maxLen at hmx; omega
theorem OwnI.same {w : World} {v : Value} {A B : List Int} (h : OwnI w v A) (he : A = B) : OwnI w v B := he ▸ h
set_option maxHeartbeats 2000000 in
theorem longs_any {w : World} {v1 v2 : Value} {A B : List Int} (h1 : OwnI w v1 A) (h2 : OwnI w v2 B) : Calls Try.prog 14 #[v1, v2] w fun e w' => e = .returned (.bool (decide (A = B))) ∧ Fr w w' (fun _ => False) := by
  have HA := hide h1
  have HB := hide h2
  obtain ⟨a1, c1, rfl, _⟩ := h1.shape
  obtain ⟨a2, c2, rfl, _⟩ := h2.shape
  obtain ⟨m, hm⟩ : ∃ m, m = A.length := ⟨_, rfl⟩
  obtain ⟨m', hm'⟩ : ∃ m', m' = B.length := ⟨_, rfl⟩
  rw [← hm] at HA ⊢
  rw [← hm'] at HB ⊢
  obtain ⟨r, hr⟩ : ∃ r, r = decide (A = B) := ⟨_, rfl⟩
  rw [← hr]
  have hb63 : m ≤ 9223372036854775807 := by rw [hm]; exact h1.bound
  have HM := hide hm
  have HM' := hide hm'
  have HR := hide hr
  clear h1 h2 hm hm' hr
  by_cases hne : m = m'
  · subst hne
    go_enter Try.func14, Try.ntmps14
    go_wp2
    go_loopw [13] (fun i wr => ∃ k : Nat, i = .int .i64 (k : Int) ∧ k ≤ m ∧ A.take k = B.take k ∧ Fr w wr (fun _ => False)) (fun i _ => m - (intOf i).toNat)
    case atStart => exact ⟨0, rfl, Nat.zero_le _, rfl, Fr.refl _ _⟩
    case round =>
      rename World => w7
      obtain ⟨k, rfl, hk, hE, hf⟩ := hrel
      have HE := hide hE
      have HF := hide hf
      clear hE hf
      by_cases hlt : k < m
      · obtain ⟨x, hx⟩ : ∃ x, A[k]? = some x := ⟨_, List.getElem?_eq_getElem (by rw [← HM.out]; exact hlt)⟩
        obtain ⟨y, hy⟩ : ∃ y, B[k]? = some y := ⟨_, List.getElem?_eq_getElem (by rw [← HM'.out]; exact hlt)⟩
        obtain ⟨g1, rfl, cv1⟩ := (HA.out.fr HF.out (fun _ _ h => h)).at k x hx
        obtain ⟨g2, rfl, cv2⟩ := (HB.out.fr HF.out (fun _ _ h => h)).at k y hy
        have HC1 := hide cv1
        have HC2 := hide cv2
        have HX := hide hx
        have HY := hide hy
        clear hx hy cv1 cv2
        go_wp2_with fail
        refine wp_region_K (fun z => decide (z < 9)) (fun U : World => U = w7.drew) (by kernel_rfl) ?_
        have HFD := hide ((HF.out.trans (Fr.drew w7 (fun _ => False))).mono (Y := fun _ => False) (by simp))
        have HD1 : Hid (w7.drew.cell? ⟨g1, k, none⟩ = some (.int .i64 x)) := hide HC1.out
        have HD2 : Hid (w7.drew.cell? ⟨g2, k, none⟩ = some (.int .i64 y)) := hide HC2.out
        generalize w7.drew = V at *
        have hS : (fun U : World => U = V) V := rfl
        refine wpAnyK_takeTo 0 (some 16) (.slice (some ⟨g1, 0, none⟩) m c1) [2, 3, 8] rfl rfl (by kernel_rfl) (by kernel_rfl) (by kernel_rfl) (by kernel_rfl) (fun _ _ _ h => h) hS (Or.inl ⟨rfl, fun w1 hw1 => by obtain rfl := (hw1 : w1 = V); have d1 := HD1.out; have d2 := HD2.out; go_simp⟩) ?_
        simp only [Act.put, List.setIfInBounds_toArray, List.set_cons_zero, List.set_cons_succ]
        refine wpAnyK_takeTo 1 (some 17) (.int .i64 (k : Int)) [2, 3, 8] rfl rfl (by kernel_rfl) (by kernel_rfl) (by kernel_rfl) (by kernel_rfl) (fun _ _ _ h => h) hS (Or.inl ⟨rfl, fun w1 hw1 => by obtain rfl := (hw1 : w1 = V); have d1 := HD1.out; have d2 := HD2.out; go_simp⟩) ?_
        simp only [Act.put, List.setIfInBounds_toArray, List.set_cons_zero, List.set_cons_succ]
        refine wpAnyK_takeTo 2 (some 18) (.pointer (some ⟨g1, k, none⟩)) [3, 8] rfl rfl (by kernel_rfl) (by kernel_rfl) (by kernel_rfl) (by kernel_rfl) (fun _ _ _ h => h) hS (Or.inl ⟨rfl, fun w1 hw1 => by obtain rfl := (hw1 : w1 = V); have d1 := HD1.out; have d2 := HD2.out; go_simp⟩) ?_
        simp only [Act.put, List.setIfInBounds_toArray, List.set_cons_zero, List.set_cons_succ]
        refine wpAnyK_takeTo 3 (some 19) (.int .i64 x) [8] rfl rfl (by kernel_rfl) (by kernel_rfl) (by kernel_rfl) (by kernel_rfl) (fun _ _ _ h => h) hS (Or.inl ⟨rfl, fun w1 hw1 => by obtain rfl := (hw1 : w1 = V); have d1 := HD1.out; have d2 := HD2.out; go_simp⟩) ?_
        simp only [Act.put, List.setIfInBounds_toArray, List.set_cons_zero, List.set_cons_succ]
        refine wpAnyK_takeTo 4 (some 20) (.slice (some ⟨g2, 0, none⟩) m c2) [6, 7, 8] rfl rfl (by kernel_rfl) (by kernel_rfl) (by kernel_rfl) (by kernel_rfl) (fun _ _ _ h => h) hS (Or.inl ⟨rfl, fun w1 hw1 => by obtain rfl := (hw1 : w1 = V); have d1 := HD1.out; have d2 := HD2.out; go_simp⟩) ?_
        simp only [Act.put, List.setIfInBounds_toArray, List.set_cons_zero, List.set_cons_succ]
        refine wpAnyK_takeTo 5 (some 21) (.int .i64 (k : Int)) [6, 7, 8] rfl rfl (by kernel_rfl) (by kernel_rfl) (by kernel_rfl) (by kernel_rfl) (fun _ _ _ h => h) hS (Or.inl ⟨rfl, fun w1 hw1 => by obtain rfl := (hw1 : w1 = V); have d1 := HD1.out; have d2 := HD2.out; go_simp⟩) ?_
        simp only [Act.put, List.setIfInBounds_toArray, List.set_cons_zero, List.set_cons_succ]
        refine wpAnyK_takeTo 6 (some 22) (.pointer (some ⟨g2, k, none⟩)) [7, 8] rfl rfl (by kernel_rfl) (by kernel_rfl) (by kernel_rfl) (by kernel_rfl) (fun _ _ _ h => h) hS (Or.inl ⟨rfl, fun w1 hw1 => by obtain rfl := (hw1 : w1 = V); have d1 := HD1.out; have d2 := HD2.out; go_simp⟩) ?_
        simp only [Act.put, List.setIfInBounds_toArray, List.set_cons_zero, List.set_cons_succ]
        refine wpAnyK_takeTo 7 (some 23) (.int .i64 y) [8] rfl rfl (by kernel_rfl) (by kernel_rfl) (by kernel_rfl) (by kernel_rfl) (fun _ _ _ h => h) hS (Or.inl ⟨rfl, fun w1 hw1 => by obtain rfl := (hw1 : w1 = V); have d1 := HD1.out; have d2 := HD2.out; go_simp⟩) ?_
        simp only [Act.put, List.setIfInBounds_toArray, List.set_cons_zero, List.set_cons_succ]
        refine wpAnyK_takeTo 8 (some 24) (.bool (x != y)) [] rfl rfl (by kernel_rfl) (by kernel_rfl) (by kernel_rfl) (by kernel_rfl) (fun _ _ _ h => h) hS (Or.inl ⟨rfl, fun w1 hw1 => by obtain rfl := (hw1 : w1 = V); have d1 := HD1.out; have d2 := HD2.out; go_simp⟩) ?_
        simp only [Act.put, List.setIfInBounds_toArray, List.set_cons_zero, List.set_cons_succ]

        clear hS
        refine wpAnyK_done (by kernel_rfl) ?_ _
        by_cases hxy : x = y
        · have hb : (x != y) = false := by simp [hxy]
          have HXY := hide hxy
          clear hxy
          go_wp2
          go_roundw
          case rel => exact ⟨k + 1, by go_num, by omega, by rw [List.take_add_one, List.take_add_one, HE.out, HX.out, HY.out, HXY.out], HFD.out⟩
          case measure => simp [intOf]; omega
        · have hb : (x != y) = true := by simp [hxy]
          have hrf : r = false := by
            rw [HR.out]
            refine decide_eq_false (fun h => hxy ?_)
            have h1 := HX.out
            rw [h, HY.out] at h1
            exact (Option.some.inj h1).symm
          subst hrf
          clear hxy
          go_wp2
          go_ret
          exact ⟨rfl, HFD.out⟩
      · obtain rfl : k = m := by omega
        have hrt : r = true := by
          rw [HR.out]
          refine decide_eq_true ?_
          have h := HE.out
          rwa [List.take_of_length_le (by rw [← HM.out]; exact Nat.le_refl _), List.take_of_length_le (by rw [← HM'.out]; exact Nat.le_refl _)] at h
        subst hrt
        go_wp2
        go_ret
        exact ⟨rfl, HF.out⟩
  · have hrf : r = false := by
      rw [HR.out]
      refine decide_eq_false (fun h => hne ?_)
      rw [HM.out, HM'.out, h]
    subst hrf
    have hb : ((m : Int) == (m' : Int)) = false := by simp; omega
    go_enter Try.func14, Try.ntmps14
    go_wp2
    go_ret
    exact ⟨rfl, Fr.refl _ _⟩
end Go.Proofs.Ytanfbfmpppfbhaa

/- The document's nodes. -/
namespace Go.Proofs.Ytanfbfmpppfbhaa
open Go.RowKit
set_option maxRecDepth 100000
set_option linter.unusedVariables false
set_option linter.unusedSimpArgs false

/-- The nodes above a number, up to a level. -/
def ancK (x k : Nat) : List Nat := ((List.range (k - 1)).filter (fun j => decide (x % 2 ^ (j + 1) ≠ 0))).map (fun j => anc x (j + 1))
theorem ancK_succ (x : Nat) {k : Nat} (h : 1 ≤ k) : ancK x (k + 1) = ancK x k ++ (if x % 2 ^ k = 0 then [] else [anc x k]) := by
  unfold ancK
  rw [show k + 1 - 1 = (k - 1) + 1 by omega, List.range_succ, List.filter_append, List.map_append]
  congr 1
  rw [List.filter_cons, show k - 1 + 1 = k by omega]
  by_cases h0 : x % 2 ^ k = 0
  · simp [h0]
  · simp [h0, show k - 1 + 1 = k by omega]
theorem ancK_end {x : Nat} (h : x ≠ 0) : ancK x 41 ++ [0] = ancs x := by unfold ancK ancs; rw [if_neg h]
theorem ancK_len (x : Nat) {k : Nat} (h : k ≤ 41) : (ancK x k).length ≤ 40 := by
  unfold ancK
  have := List.length_filter_le (fun j => decide (x % 2 ^ (j + 1) ≠ 0)) (List.range (k - 1))
  rw [List.length_range] at this
  rw [List.length_map]
  omega
set_option maxHeartbeats 2000000 in
theorem anc_any (x : Nat) (hx : x < 1099511627776) (w : World) : Calls Try.prog 30 #[.int .i64 (x : Int)] w fun e w' => ∃ v, e = .returned v ∧ OwnI w' v (zs (ancs x)) ∧ Fr w w' (fun _ => False) ∧ ∀ k, v.ownBlock = some k → w.heap.size ≤ k := by
  by_cases h0 : x = 0
  · subst h0
    go_enter Try.func30, Try.ntmps30
    go_wp2
    go_ret
    exact ⟨_, rfl, OwnI.nil w, Fr.refl _ _, fun k hk => by cases hk⟩
  · have hx0 : ((x : Int) == 0) = false := by simp; omega
    go_enter Try.func30, Try.ntmps30
    go_wp2
    go_loopw [3, 4] (fun v i wr => ∃ k : Nat, i = .int .i64 (k : Int) ∧ 1 ≤ k ∧ k ≤ 41 ∧ OwnI wr v (zs (ancK x k)) ∧ Fr w wr (fun _ => False) ∧ (∀ q, v.ownBlock = some q → w.heap.size ≤ q)) (fun _ i _ => 41 - (intOf i).toNat)
    case atStart => exact ⟨1, rfl, Nat.le_refl _, by omega, OwnI.nil w, Fr.refl _ _, fun k hk => by cases hk⟩
    case round =>
      rename World => w7
      obtain ⟨k, rfl, hk1, hk, ho, hf, hq⟩ := hrel
      have HO := hide ho
      have HF := hide hf
      have HQ := hide hq
      clear ho hf hq
      by_cases hlt : k ≤ 40
      · obtain ⟨P, hPe⟩ : ∃ P : Nat, P = 2 ^ k := ⟨_, rfl⟩
        have hp1 : 2 ≤ P := by rw [hPe]; exact Nat.pow_le_pow_right (n := 2) (by decide) hk1
        have hp2 : P ≤ 1099511627776 := by rw [hPe]; exact (Nat.pow_le_pow_right (by decide : 2 > 0) hlt : 2 ^ k ≤ 2 ^ 40)
        have hp : wrap64 ((2 : Int) ^ k) = (P : Int) := by
          have e : ((2 ^ k : Nat) : Int) = (2 : Int) ^ k := by rw [Int.natCast_pow]; rfl
          rw [← e, ← hPe]
          unfold wrap64
          omega
        by_cases hmod : x % P = 0
        · have hm : ((x : Int) % (P : Int) == 0) = true := by
            have : ((x % P : Nat) : Int) = 0 := by rw [hmod]; rfl
            rw [← this]; simp
          have HS : Hid (ancK x (k + 1) = ancK x k) := hide (by rw [ancK_succ x hk1, ← hPe, if_pos hmod, List.append_nil])
          clear hPe hmod
          go_wp2
          go_roundw
          case rel => exact ⟨k + 1, by go_num, by omega, by omega, by rw [HS.out]; exact HO.out, HF.out, HQ.out⟩
          case measure => simp [intOf]; omega
        · have hm : ((x : Int) % (P : Int) == 0) = false := by
            have : ((x % P : Nat) : Int) ≠ 0 := by omega
            simpa using this
          obtain ⟨D, hD⟩ : ∃ D : Nat, D = x / (2 * P) := ⟨_, rfl⟩
          have hq : (x : Int) / (2 * (P : Int)) = (D : Int) := by rw [hD]; rfl
          have hdx : D ≤ x := by rw [hD]; exact Nat.div_le_self ..
          obtain ⟨M, hM⟩ : ∃ M : Nat, M = D * (2 * P) := ⟨_, rfl⟩
          have hmm : (D : Int) * (2 * (P : Int)) = (M : Int) := by rw [hM]; simp
          have hmx : M ≤ x := by rw [hM, hD]; exact Nat.div_mul_le_self ..
          have HS : Hid (zs (ancK x (k + 1)) = zs (ancK x k) ++ [(M : Int) + (P : Int)]) := hide (by
            rw [ancK_succ x hk1, ← hPe, if_neg hmod, zs_append]
            congr 1
            show [((anc x k : Nat) : Int)] = _
            unfold anc
            rw [hM, hD, hPe, Nat.pow_succ, Nat.mul_comm (2 ^ k) 2]
            simp)
          have HL : Hid ((zs (ancK x k)).length ≤ 40) := hide (by rw [length_zs]; exact ancK_len x hk)
          clear hPe hmod hD hM
          go_wp2_with (refine wpList_pushI rfl (.tmp 19) (.tmp 29) rfl u3 _ rfl HO.out [(M : Int) + (P : Int)] _ 1 1 rfl rfl rfl (by have := HL.out; simp only [List.length_singleton]; omega) _ rfl ?_; intro v2 W2 o2 f2 r2; have HO2 := hide o2; have HF2 := hide ((HF.out.trans f2).mono (Y := fun _ => False) (fun q hq h => by rcases h with h | h; exact h; (have := HQ.out q h; omega))); have HQ2 := hide (show ∀ q, v2.ownBlock = some q → w.heap.size ≤ q from fun q hq => by rcases r2 with h1 | ⟨k, h1, h2⟩; exact HQ.out q (h1 ▸ hq); rw [hq] at h1; cases h1; (have := HF.out.size; omega)); clear o2 f2 r2)
          go_roundw
          case rel => exact ⟨k + 1, by go_num, by omega, by omega, by rw [HS.out]; exact HO2.out, HF2.out, HQ2.out⟩
          case measure => simp [intOf]; omega
      · obtain rfl : k = 41 := by omega
        have HS : Hid (zs (ancK x 41) ++ [0] = zs (ancs x)) := hide (by rw [← ancK_end h0, zs_append]; rfl)
        have HL : Hid ((zs (ancK x 41)).length ≤ 40) := hide (by rw [length_zs]; exact ancK_len x (by omega))
        go_wp2_with (refine wpList_pushI rfl (.tmp 31) (.tmp 32) rfl u3 _ rfl HO.out [0] _ 1 1 rfl rfl rfl (by have := HL.out; simp only [List.length_singleton]; omega) _ rfl ?_; intro v2 W2 o2 f2 r2; have HO2 := hide o2; have HF2 := hide ((HF.out.trans f2).mono (Y := fun _ => False) (fun q hq h => by rcases h with h | h; exact h; (have := HQ.out q h; omega))); have HQ2 := hide (show ∀ q, v2.ownBlock = some q → w.heap.size ≤ q from fun q hq => by rcases r2 with h1 | ⟨k, h1, h2⟩; exact HQ.out q (h1 ▸ hq); rw [hq] at h1; cases h1; (have := HF.out.size; omega)); clear o2 f2 r2)
        go_ret
        exact ⟨_, rfl, by rw [← HS.out]; exact HO2.out, HF2.out, HQ2.out⟩
end Go.Proofs.Ytanfbfmpppfbhaa

/- The document's Fork. -/
namespace Go.Proofs.Ytanfbfmpppfbhaa
open Go.RowKit
set_option maxRecDepth 100000
set_option linter.unusedVariables false
set_option linter.unusedSimpArgs false

/-- The level at which the document finds a period's node. -/
def lvl (a b : Nat) : Nat := if a = 0 then 41 else forkP a b
theorem lvl_le {a b : Nat} (h : a < b) (hb : b ≤ 2 ^ 40) : lvl a b ≤ 41 := by
  unfold lvl
  split
  · exact Nat.le_refl _
  · rename_i h0
    have := forkP_lt h h0 hb
    omega
theorem lvl_none {a b j : Nat} (h : a < b) (hj : lvl a b < j) (h41 : j ≤ 41) : b ≤ ((a + 2 ^ j - 1) / 2 ^ j) * 2 ^ j := by
  unfold lvl at hj
  split at hj
  · omega
  · rename_i h0
    exact fork_none h h0 hj
theorem lvl_here {a b : Nat} (h : a < b) : ((a + 2 ^ lvl a b - 1) / 2 ^ lvl a b) * 2 ^ lvl a b = forkN a b := by
  unfold lvl
  split
  · rename_i h0
    subst h0
    unfold forkN
    rw [if_pos rfl]
  · rename_i h0
    exact fork_here h h0
set_option maxHeartbeats 2000000 in
theorem rfork_any (p : Per) (w : World) : Calls Try.prog 11 #[perV p] w fun e w' => e = .returned (.tuple #[.int .i64 (forkV p), .int .i64 (codeP p)]) ∧ Fr w w' (fun _ => False) := by
  have HC := hide (right_any p)
  obtain ⟨g, hg⟩ : ∃ g, g = w.heap.size := ⟨_, rfl⟩
  obtain ⟨w1, hw1⟩ : ∃ w1, w1 = w.alloc (.cells (cellsP p).toArray 23) := ⟨_, rfl⟩
  have f1 : Fr w w1 (fun _ => False) := by rw [hw1]; exact Fr.alloc w _ _
  have b1 : Two w1 g (.int .i64 p.lo) (.int .i64 p.hi) := by rw [hw1, hg]; exact two_of (heap_alloc_new w _)
  obtain ⟨lo, hi⟩ := p
  have HF1 := hide f1
  have HB1 := hide b1
  have HW := hide hw1
  have HG := hide hg
  have c0 := b1.1
  have c1 := b1.2.1
  clear f1 b1 hw1 hg
  obtain ⟨Q, hQ⟩ : ∃ Q, Q = fun (e : Ending) (w' : World) => e = .returned (.tuple #[.int .i64 (forkV ⟨lo, hi⟩), .int .i64 (codeP ⟨lo, hi⟩)]) ∧ Fr w w' (fun _ => False) := ⟨_, rfl⟩
  rw [← hQ]
  have HQ := hide hQ
  clear hQ
  unfold perV cellsP at *
  go_enter Try.func11, Try.ntmps11
  go_wp2_with (rw [← HW.out, ← HG.out]; clear HW)
  refine (HC.out w1).mono ?_
  rintro e w2 ⟨rfl, f2⟩
  have HT2 := hide (HB1.out.fr f2 (fun h => h))
  have d0 := HT2.out.1
  have d1 := HT2.out.2.1
  have HF := hide ((HF1.out.trans f2).mono (Y := fun _ => False) (by simp))
  clear f2 c0 c1 HB1 HF1 HC
  by_cases hr : rightB ⟨lo, hi⟩ = true
  · rw [hr]
    obtain ⟨h1, h2, h3⟩ := (rightB_iff _).1 hr
    simp only [] at h1 h2 h3
    have HR := hide hr
    clear hr
    obtain ⟨a, rfl⟩ : ∃ a : Nat, lo = (a : Int) := ⟨lo.toNat, by omega⟩
    obtain ⟨b, rfl⟩ : ∃ b : Nat, hi = (b : Int) := ⟨hi.toNat, by omega⟩
    have hab : a < b := by omega
    have hb40 : b ≤ 1099511627776 := by omega
    have HRES : Hid (∀ W, Fr w W (fun _ => False) → Q (.returned (.tuple #[.int .i64 (forkN a b : Int), .int .i64 0])) W) := hide (fun W hf => by
      rw [HQ.out]
      refine ⟨?_, hf⟩
      rw [forkV_ok HR.out, codeP_ok _ HR.out]
      rfl)
    go_wp2
    go_loopw [4] (fun i wr => ∃ j : Nat, i = .int .i64 (j : Int) ∧ lvl a b ≤ j ∧ j ≤ 41 ∧ wr = w2) (fun i _ => (intOf i).toNat)
    case atStart => exact ⟨41, rfl, lvl_le hab (by omega), Nat.le_refl _, rfl⟩
    case round =>
      obtain ⟨j, rfl, hj, hj41, rfl⟩ := hrel
      have d0 := HT2.out.1
      have d1 := HT2.out.2.1
      obtain ⟨P, hPe⟩ : ∃ P : Nat, P = 2 ^ j := ⟨_, rfl⟩
      have hp1 : 1 ≤ P := by rw [hPe]; exact Nat.pow_pos (by decide)
      have hp2 : P ≤ 2199023255552 := by rw [hPe]; exact (Nat.pow_le_pow_right (by decide : 2 > 0) hj41 : 2 ^ j ≤ 2 ^ 41)
      have hp : wrap64 ((2 : Int) ^ j) = (P : Int) := by
        have e : ((2 ^ j : Nat) : Int) = (2 : Int) ^ j := by rw [Int.natCast_pow]; rfl
        rw [← e, ← hPe]
        unfold wrap64
        omega
      obtain ⟨D, hD⟩ : ∃ D : Nat, D = (a + P - 1) / P := ⟨_, rfl⟩
      have hq : ((a : Int) + (P : Int) - 1) / (P : Int) = (D : Int) := by
        rw [show (a : Int) + (P : Int) - 1 = ((a + P - 1 : Nat) : Int) by omega, hD]; rfl
      obtain ⟨M, hM⟩ : ∃ M : Nat, M = D * P := ⟨_, rfl⟩
      have hmm : (D : Int) * (P : Int) = (M : Int) := by rw [hM]; simp
      have hmx : M ≤ a + P - 1 := by rw [hM, hD]; exact Nat.div_mul_le_self ..
      have hdx : D ≤ a + P - 1 := by rw [hD]; exact Nat.div_le_self ..
      by_cases hjl : j = lvl a b
      · have hMf : M = forkN a b := by rw [hM, hD, hPe, hjl]; exact lvl_here hab
        have hlt : (M : Int) < (b : Int) := by have := (fork_has hab).2; omega
        have HM : Hid (∀ W, Fr w W (fun _ => False) → Q (.returned (.tuple #[.int .i64 (M : Int), .int .i64 0])) W) := hide (by rw [hMf]; exact HRES.out)
        clear hPe hD hM hMf hjl
        go_wp2
        first | exact HM.out _ HF.out | (go_ret; exact HM.out _ HF.out)
      · have hge : ¬ ((M : Int) < (b : Int)) := by
          have := lvl_none (j := j) hab (by omega) hj41
          rw [← hPe, ← hD, ← hM] at this
          omega
        have hj1 : 1 ≤ j := by omega
        have hj2 : lvl a b ≤ j - 1 := by omega
        clear hPe hD hM hjl
        go_wp2
        go_roundw
        case rel => exact ⟨j - 1, by go_num, by omega, by omega, by first | rfl | trivial⟩
        case measure => simp [intOf]; omega
  · have hr' : rightB ⟨lo, hi⟩ = false := by simpa using hr
    rw [hr']
    have HRES : Hid (Q (.returned (.tuple #[.int .i64 0, .int .i64 40])) w2) := hide (by
      rw [HQ.out]
      refine ⟨?_, HF.out⟩
      rw [forkV_no hr', codeP_no _ hr'])
    clear hr hr'
    go_wp2
    first | exact HRES.out | (go_ret2; exact HRES.out)
end Go.Proofs.Ytanfbfmpppfbhaa

/- The document's Nodes. -/
namespace Go.Proofs.Ytanfbfmpppfbhaa
open Go.RowKit
set_option maxRecDepth 100000
set_option linter.unusedVariables false
set_option linter.unusedSimpArgs false

theorem insAll_lefts {p : Per} (h : rightB p = true) : insAll (zs ((ancs p.lo.toNat).filter (P28 p.lo p.hi))) = lefts p := by
  unfold lefts
  rw [if_pos h]
  exact insAll_srt (zs_nodup ((ancs_nodup _).sublist List.filter_sublist))
theorem insAll_rights {p : Per} (h : rightB p = true) : insAll (zs ((ancs (p.hi - 1).toNat).filter (P29 p.lo p.hi))) = rights p := by
  unfold rights
  rw [if_pos h]
  exact insAll_srt (zs_nodup ((ancs_nodup _).sublist List.filter_sublist))
def RNodesQ (p : Per) (w : World) (e : Ending) (w' : World) : Prop := ∃ v1 v2, e = .returned (.tuple #[v1, v2, .int .i64 (codeP p)]) ∧ OwnI w' v1 (lefts p) ∧ OwnI w' v2 (rights p) ∧ Fr w w' (fun _ => False)
theorem zs_get {L : List Nat} {i : Nat} {x : Int} (h : (zs L)[i]? = some x) : ∃ n : Nat, L[i]? = some n ∧ x = (n : Int) := by
  unfold zs at h
  rw [List.getElem?_map] at h
  cases hn : L[i]? with
  | none => rw [hn] at h; cases h
  | some n => rw [hn] at h; exact ⟨n, rfl, (Option.some.inj h).symm⟩
theorem take_filter {L : List Nat} {P : Nat → Bool} {i n : Nat} (h : L[i]? = some n) : (L.take (i + 1)).filter P = (L.take i).filter P ++ (if P n = true then [n] else []) := by
  rw [List.take_add_one, h, List.filter_append]
  congr 1
  by_cases hp : P n = true
  · rw [if_pos hp]; simp [hp]
  · rw [if_neg hp]; simp [hp]
theorem filt_len {L : List Nat} {P : Nat → Bool} {i : Nat} (h : L.length ≤ 41) : (insAll (zs ((L.take i).filter P))).length ≤ 41 := by
  rw [insAll_len, length_zs]
  have := List.length_filter_le P (L.take i)
  rw [List.length_take] at this
  omega
set_option maxHeartbeats 4000000 in
theorem rnodes_any (p : Per) (w : World) : Calls Try.prog 13 #[perV p] w (RNodesQ p w) := by
  have HC := hide (right_any p)
  obtain ⟨g, hg⟩ : ∃ g, g = w.heap.size := ⟨_, rfl⟩
  obtain ⟨w1, hw1⟩ : ∃ w1, w1 = w.alloc (.cells (cellsP p).toArray 23) := ⟨_, rfl⟩
  have f1 : Fr w w1 (fun _ => False) := by rw [hw1]; exact Fr.alloc w _ _
  have b1 : Two w1 g (.int .i64 p.lo) (.int .i64 p.hi) := by rw [hw1, hg]; exact two_of (heap_alloc_new w _)
  obtain ⟨lo, hi⟩ := p
  have HF1 := hide f1
  have HB1 := hide b1
  have HW := hide hw1
  have HG := hide hg
  have c0 := b1.1
  have c1 := b1.2.1
  clear f1 b1 hw1 hg
  obtain ⟨Q, hQ⟩ : ∃ Q, Q = RNodesQ ⟨lo, hi⟩ w := ⟨_, rfl⟩
  rw [← hQ]
  have HQQ := hide hQ
  clear hQ
  unfold perV cellsP at *
  go_enter Try.func13, Try.ntmps13
  go_wp2_with (rw [← HW.out, ← HG.out]; clear HW)
  refine (HC.out w1).mono ?_
  rintro e w2 ⟨rfl, f2⟩
  have HT2 := hide (HB1.out.fr f2 (fun h => h))
  have d0 := HT2.out.1
  have d1 := HT2.out.2.1
  have HF := hide ((HF1.out.trans f2).mono (Y := fun _ => False) (by simp))
  clear f2 c0 c1 HB1 HF1 HC
  by_cases hr : rightB ⟨lo, hi⟩ = true
  · have HIL := hide (insAll_lefts hr)
    have HIR := hide (insAll_rights hr)
    have HCODE := hide (codeP_ok _ hr)
    rw [hr]
    obtain ⟨h1, h2, h3⟩ := (rightB_iff _).1 hr
    simp only [] at h1 h2 h3
    clear hr
    obtain ⟨a, ha⟩ : ∃ a : Nat, lo = (a : Int) := ⟨lo.toNat, by omega⟩
    obtain ⟨b, hb⟩ : ∃ b : Nat, hi - 1 = (b : Int) := ⟨(hi - 1).toNat, by omega⟩
    have HA := hide (anc_any a (by omega))
    have HB := hide (anc_any b (by omega))
    have HIL : Hid (insAll (zs ((ancs a).filter (P28 lo hi))) = lefts ⟨lo, hi⟩) := hide (by have := HIL.out; simp only [ha, Int.toNat_natCast] at this ⊢; exact this)
    have HIR : Hid (insAll (zs ((ancs b).filter (P29 lo hi))) = rights ⟨lo, hi⟩) := hide (by have := HIR.out; simp only [hb, Int.toNat_natCast] at this ⊢; exact this)
    have HA : Hid (∀ V : World, Calls Try.prog 30 #[.int .i64 lo] V fun e w' => ∃ v, e = .returned v ∧ OwnI w' v (zs (ancs a)) ∧ Fr V w' (fun _ => False) ∧ ∀ k, v.ownBlock = some k → V.heap.size ≤ k) := hide (by rw [ha]; exact HA.out)
    clear ha
    go_wp2_with fail
    refine (HA.out w2).mono ?_
    rintro e w3 ⟨v3, rfl, o3, f3, q3⟩
    have HT3 := hide (HT2.out.fr f3 (fun h => h))
    have HF3 := hide ((HF.out.trans f3).mono (Y := fun _ => False) (by simp))
    obtain ⟨a3, k3, rfl, _⟩ := o3.shape
    obtain ⟨n3, hn3⟩ : ∃ n3, n3 = (zs (ancs a)).length := ⟨_, rfl⟩
    rw [← hn3] at o3 ⊢
    have hn341 : n3 ≤ 41 := by rw [hn3, length_zs]; exact ancs_len a
    have HN3 := hide hn3
    have HO3 := hide o3
    clear f3 o3 q3 hn3 d0 d1 HA
    go_wp2
    go_loopw [5, 18] (fun v i wr => ∃ j : Nat, i = .int .i64 (j : Int) ∧ j ≤ n3 ∧ OwnI wr v (insAll (zs (((ancs a).take j).filter (P28 lo hi)))) ∧ Fr w3 wr (fun _ => False)) (fun _ i _ => n3 - (intOf i).toNat)
    case atStart => exact ⟨0, rfl, Nat.zero_le _, OwnI.nil _, Fr.refl _ _⟩
    case round =>
      rename World => w7
      obtain ⟨j, rfl, hj, ho, hf⟩ := hrel
      have HO := hide ho
      have HFF := hide hf
      have HT7 := hide (HT3.out.fr hf (fun h => h))
      have d0 := HT7.out.1
      have d1 := HT7.out.2.1
      clear ho hf
      by_cases hlt : j < n3
      · obtain ⟨x, hx⟩ : ∃ x, (zs (ancs a))[j]? = some x := ⟨_, List.getElem?_eq_getElem (by rw [← HN3.out]; exact hlt)⟩
        obtain ⟨ga, rfl, cv⟩ := (HO3.out.fr HFF.out (fun _ _ h => h)).at j x hx
        obtain ⟨m, hm, rfl⟩ := zs_get hx
        have HTF := hide (take_filter (P := P28 lo hi) hm)
        clear hx hm
        by_cases hml : (m : Int) < lo
        · have hP : P28 lo hi m = true := by unfold P28; exact decide_eq_true hml
          have HS : Hid (insAll (zs (((ancs a).take (j + 1)).filter (P28 lo hi))) = ins (m : Int) (insAll (zs (((ancs a).take j).filter (P28 lo hi))))) := hide (by rw [HTF.out, if_pos hP, zs_append]; exact insAll_snoc _ _)
          have HWI := hide (with_any HO.out (m : Int) (by have := filt_len (P := P28 lo hi) (i := j) (ancs_len a); omega))
          clear hP
          go_wp2_with fail
          refine HWI.out.mono ?_
          rintro e w8 ⟨v8, rfl, o8, f8, q8⟩
          have HO8 := hide o8
          have HF8 := hide ((HFF.out.trans f8).mono (Y := fun _ => False) (by simp))
          clear o8 f8 q8 HWI
          go_wp2
          go_roundw
          case rel => exact ⟨j + 1, by go_num, by omega, by rw [HS.out]; exact HO8.out, HF8.out⟩
          case measure => simp [intOf]; omega
        · have hP : ¬ P28 lo hi m = true := by unfold P28; simpa using hml
          have HS : Hid (insAll (zs (((ancs a).take (j + 1)).filter (P28 lo hi))) = insAll (zs (((ancs a).take j).filter (P28 lo hi)))) := hide (by rw [HTF.out, if_neg hP, List.append_nil])
          clear hP
          go_wp2
          go_roundw
          case rel => exact ⟨j + 1, by go_num, by omega, by rw [HS.out]; exact HO.out, HFF.out⟩
          case measure => simp [intOf]; omega
      · obtain rfl : j = n3 := by omega
        have HO5 : Hid (OwnI w7 u5 (lefts ⟨lo, hi⟩)) := hide (by
          have h := HO.out
          rw [List.take_of_length_le (by rw [HN3.out, length_zs]; exact Nat.le_refl _)] at h
          exact HIL.out ▸ h)
        have HF7 := hide ((HF3.out.trans HFF.out).mono (Y := fun _ => False) (by simp))
        clear HO
        have HB : Hid (∀ V : World, Calls Try.prog 30 #[.int .i64 (hi - 1)] V fun e w' => ∃ v, e = .returned v ∧ OwnI w' v (zs (ancs b)) ∧ Fr V w' (fun _ => False) ∧ ∀ k, v.ownBlock = some k → V.heap.size ≤ k) := hide (by rw [hb]; exact HB.out)
        clear hb
        go_wp2_with fail
        refine (HB.out w7).mono ?_
        rintro e w4 ⟨v4, rfl, o4, f4, q4⟩
        have HT4 := hide (HT7.out.fr f4 (fun h => h))
        have HF4 := hide ((HF7.out.trans f4).mono (Y := fun _ => False) (by simp))
        have HL4 := hide (HO5.out.fr f4 (fun _ _ h => h))
        obtain ⟨a4, k4, rfl, _⟩ := o4.shape
        obtain ⟨n4, hn4⟩ : ∃ n4, n4 = (zs (ancs b)).length := ⟨_, rfl⟩
        rw [← hn4] at o4 ⊢
        have hn441 : n4 ≤ 41 := by rw [hn4, length_zs]; exact ancs_len b
        have HN4 := hide hn4
        have HO4 := hide o4
        clear f4 o4 q4 hn4 d0 d1 HB HF7 HO5 HT7 HFF
        go_wp2
        go_loopw [6, 35] (fun v i wr => ∃ j : Nat, i = .int .i64 (j : Int) ∧ j ≤ n4 ∧ OwnI wr v (insAll (zs (((ancs b).take j).filter (P29 lo hi)))) ∧ Fr w4 wr (fun _ => False)) (fun _ i _ => n4 - (intOf i).toNat)
        case atStart => exact ⟨0, rfl, Nat.zero_le _, OwnI.nil _, Fr.refl _ _⟩
        case round =>
          rename World => w9
          obtain ⟨i, rfl, hi4, ho, hf⟩ := hrel
          have HO := hide ho
          have HFF := hide hf
          have HT9 := hide (HT4.out.fr hf (fun h => h))
          have d0 := HT9.out.1
          have d1 := HT9.out.2.1
          clear ho hf
          by_cases hlt4 : i < n4
          · obtain ⟨x, hx⟩ : ∃ x, (zs (ancs b))[i]? = some x := ⟨_, List.getElem?_eq_getElem (by rw [← HN4.out]; exact hlt4)⟩
            obtain ⟨ga, rfl, cv⟩ := (HO4.out.fr HFF.out (fun _ _ h => h)).at i x hx
            obtain ⟨m, hm, rfl⟩ := zs_get hx
            have HTF := hide (take_filter (P := P29 lo hi) hm)
            clear hx hm
            by_cases hml : hi ≤ (m : Int)
            · have hP : P29 lo hi m = true := by unfold P29; exact decide_eq_true hml
              have HS : Hid (insAll (zs (((ancs b).take (i + 1)).filter (P29 lo hi))) = ins (m : Int) (insAll (zs (((ancs b).take i).filter (P29 lo hi))))) := hide (by rw [HTF.out, if_pos hP, zs_append]; exact insAll_snoc _ _)
              have HWI := hide (with_any HO.out (m : Int) (by have := filt_len (P := P29 lo hi) (i := i) (ancs_len b); omega))
              clear hP
              go_wp2_with fail
              refine HWI.out.mono ?_
              rintro e w8 ⟨v8, rfl, o8, f8, q8⟩
              have HO8 := hide o8
              have HF8 := hide ((HFF.out.trans f8).mono (Y := fun _ => False) (by simp))
              clear o8 f8 q8 HWI
              go_wp2
              go_roundw
              case rel => exact ⟨i + 1, by go_num, by omega, by rw [HS.out]; exact HO8.out, HF8.out⟩
              case measure => simp [intOf]; omega
            · have hP : ¬ P29 lo hi m = true := by unfold P29; simpa using hml
              have HS : Hid (insAll (zs (((ancs b).take (i + 1)).filter (P29 lo hi))) = insAll (zs (((ancs b).take i).filter (P29 lo hi)))) := hide (by rw [HTF.out, if_neg hP, List.append_nil])
              clear hP
              go_wp2
              go_roundw
              case rel => exact ⟨i + 1, by go_num, by omega, by rw [HS.out]; exact HO.out, HFF.out⟩
              case measure => simp [intOf]; omega
          · obtain rfl : i = n4 := by omega
            have HRES : Hid (Q (.returned (.tuple #[u5, u6, .int .i64 0])) w9) := hide (by
              rw [HQQ.out]
              refine ⟨_, _, by rw [HCODE.out], HL4.out.fr HFF.out (fun _ _ h => h), ?_, (HF4.out.trans HFF.out).mono (by simp)⟩
              have h := HO.out
              rw [List.take_of_length_le (by rw [HN4.out, length_zs]; exact Nat.le_refl _)] at h
              exact HIR.out ▸ h)
            go_wp2
            first | exact HRES.out | (go_ret; exact HRES.out)
  · have hr' : rightB ⟨lo, hi⟩ = false := by simpa using hr
    have HRES : Hid (Q (.returned (.tuple #[.slice none 0 0, .slice none 0 0, .int .i64 40])) w2) := hide (by
      rw [HQQ.out]
      refine ⟨_, _, by rw [codeP_no _ hr'], ?_, ?_, HF.out⟩
      · have : lefts ⟨lo, hi⟩ = [] := by unfold lefts; rw [if_neg hr]
        rw [this]; exact OwnI.nil _
      · have : rights ⟨lo, hi⟩ = [] := by unfold rights; rw [if_neg hr]
        rw [this]; exact OwnI.nil _)
    rw [hr']
    clear hr hr'
    go_wp2
    first | exact HRES.out | (go_ret; exact HRES.out)
end Go.Proofs.Ytanfbfmpppfbhaa
