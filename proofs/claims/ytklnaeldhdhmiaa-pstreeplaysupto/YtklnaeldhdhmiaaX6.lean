/- The tree and the document's list beside it. -/
import Derived.Test.YtklnaeldhdhmiaaX5
namespace Go.Proofs.Ytklnaeldhdhmiaa
open Go.RowKit Go.Sort
set_option maxRecDepth 100000
set_option linter.unusedVariables false
set_option linter.unusedSimpArgs false

/-- A tree (its points are L's) and a row (M, sorted), apart. -/
def PS (w : World) (bs gt : Nat) (v : Value) (M L : List Pt) (W : World) : Prop :=
  ∃ (P : List Pt) (X : Nat → Prop), TR W bs gt P X ∧ (∀ k, X k → bs ≤ k) ∧ Fr w W (fun k => bs ≤ k) ∧ bs ≤ W.heap.size ∧ OwnR W v M ∧ (∀ k, v.ownBlock = some k → ¬ X k) ∧ M.Pairwise aheadP ∧ P.Perm L
section
variable {w W W' W1 : World} {bs gt : Nat} {v v1 : Value} {M M1 L : List Pt}
theorem Fr.under {a b c : World} {bs : Nat} (h : Fr a b (fun k => bs ≤ k)) (k : Fr b c (fun _ => False)) : Fr a c (fun k => bs ≤ k) := (h.trans k).mono (fun _ _ h => h.elim (fun h => h) (fun h => h.elim))
theorem PS.fr (h : PS w bs gt v M L W) (hf : Fr W W' (fun _ => False)) : PS w bs gt v M L W' := by
  obtain ⟨P, X, h1, h2, h3, h4, h5, h6, h7, h8⟩ := h
  exact ⟨P, X, h1.fr hf (fun _ _ h => h), h2, h3.under hf, Nat.le_trans h4 hf.size, h5.fr hf (fun _ _ h => h), h6, h7, h8⟩
theorem PS.own (h : PS w bs gt v M L W) : OwnR W v M := by
  obtain ⟨P, X, h1, h2, h3, h4, h5, h6, h7, h8⟩ := h
  exact h5
theorem PS.sorted (h : PS w bs gt v M L W) : M.Pairwise aheadP := by
  obtain ⟨P, X, h1, h2, h3, h4, h5, h6, h7, h8⟩ := h
  exact h7
theorem PS.frame (h : PS w bs gt v M L W) : Fr w W (fun k => bs ≤ k) := by
  obtain ⟨P, X, h1, h2, h3, h4, h5, h6, h7, h8⟩ := h
  exact h3
theorem PS.shape (h : PS w bs gt v M L W) : ∃ a c, v = .slice a M.length c := shape_n h.own
theorem PS.row (h : PS w bs gt v M L W) (hr : RowG W v1 M1 W1) (hs : M1.Pairwise aheadP) : PS w bs gt v1 M1 L W1 := by
  obtain ⟨P, X, h1, h2, h3, h4, h5, h6, h7, h8⟩ := h
  exact ⟨P, X, h1.fr hr.2.1 (fun _ _ h => h), h2, h3.under hr.2.1, Nat.le_trans h4 hr.2.1.size, hr.1, fun k hk hx => by have := hr.2.2 k hk; have := (h1.lt k hx).2; omega, hs, h8⟩
theorem PS.after {P : List Pt} {X X' : Nat → Prop} {P' : List Pt} (h1 : TR W bs gt P X) (h2 : ∀ k, X k → bs ≤ k) (h3 : Fr w W (fun k => bs ≤ k)) (h4 : bs ≤ W.heap.size) (h5 : OwnR W v M) (h6 : ∀ k, v.ownBlock = some k → ¬ X k) (h7 : M.Pairwise aheadP) (q1 : TR W' bs gt P' X') (q2 : ∀ k, X' k → X k ∨ W.heap.size ≤ k) (q3 : Fr W W' X) (h8 : P'.Perm L) : PS w bs gt v M L W' := by
  refine ⟨P', X', q1, fun k hk => ?_, (h3.trans q3).mono (fun k _ h => by rcases h with h | h; exact h; exact h2 k h), Nat.le_trans h4 q3.size, h5.fr q3 h6, fun k hk hx => ?_, h7, h8⟩
  · rcases q2 k hk with h | h
    · exact h2 k h
    · omega
  · rcases q2 k hx with h | h
    · exact h6 k hk h
    · have := ownsRow_lt h5 hk; omega
theorem PS.add {p : Pt} (h : PS w bs gt v (insR p L) L W) (hid : In64 p.id) (hnew : ∀ q ∈ L, q.id ≠ p.id) (hsz : L.length + 1 ≤ 1099511627776) : Calls Try.prog 13 #[.pointer (some ⟨gt, 0, none⟩), p.agg] W fun e W' => e = .returned (.int .i64 0) ∧ PS w bs gt v (insR p L) (insR p L) W' := by
  obtain ⟨P, X, h1, h2, h3, h4, h5, h6, h7, h8⟩ := h
  refine (addT_any h1 p hid (fun q hq => hnew q (h8.mem_iff.1 hq)) (by rw [h8.length_eq]; exact hsz) h4).mono ?_
  rintro e W' ⟨rfl, ⟨X', q1, q2⟩, q3⟩
  exact ⟨rfl, PS.after h1 h2 h3 h4 h5 h6 h7 q1 q2 q3 ((h8.cons p).trans (insR_perm p L).symm)⟩
theorem PS.has (h : PS w bs gt v M L W) (p q : Pt) (hid : In64 p.id) (hq : q ∈ L) (hqi : q.id = p.id) : Calls Try.prog 13 #[.pointer (some ⟨gt, 0, none⟩), p.agg] W fun e W' => e = .returned (.int .i64 90) ∧ PS w bs gt v M L W' := by
  have hh := h
  obtain ⟨P, X, h1, h2, h3, h4, h5, h6, h7, h8⟩ := h
  refine (addT_has h1 p q hid (h8.mem_iff.2 hq) hqi).mono ?_
  rintro e W' ⟨rfl, f⟩
  exact ⟨rfl, hh.fr f⟩
theorem PS.ids (h : PS w bs gt v M L W) : Ids L := by
  obtain ⟨P, X, h1, h2, h3, h4, h5, h6, h7, h8⟩ := h
  obtain ⟨gm, ra, t, S, _, _, _, _, _, hi, _⟩ := h1
  exact hi.perm h8
theorem lessP_perm {P Q : List Pt} {id : Int} (h : P.Perm Q) : (lessP id P).Perm (lessP id Q) := h.filter _
theorem lessP_none {P : List Pt} {id : Int} (h : ∀ q ∈ P, q.id ≠ id) : lessP id P = P := by
  unfold lessP
  rw [List.filter_eq_self]
  intro q hq
  simp [h q hq]
theorem lessP_cut {P Q : List Pt} {y : Pt} (h : (y :: Q).Perm P) (hi : Ids P) : Q.Perm (lessP y.id P) := by
  have h1 := hi.perm h.symm
  unfold Ids at h1
  rw [List.pairwise_cons] at h1
  have h2 : lessP y.id (y :: Q) = Q := by
    rw [show lessP y.id (y :: Q) = lessP y.id Q by simp [lessP]]
    exact lessP_none (fun q hq => (h1.1 q hq).symm)
  have h3 := lessP_perm (id := y.id) h
  rw [h2] at h3
  exact h3
theorem PS.cut (y : Pt) (h : PS w bs gt v (lessP y.id L) L W) (hid : In64 y.id) (hy : y ∈ L) (hsz : L.length ≤ 1099511627776) : Calls Try.prog 15 #[.pointer (some ⟨gt, 0, none⟩), .int .i64 y.id] W fun e W' => e = .returned (.int .i64 0) ∧ PS w bs gt v (lessP y.id L) (lessP y.id L) W' := by
  have hids := h.ids
  obtain ⟨P, X, h1, h2, h3, h4, h5, h6, h7, h8⟩ := h
  refine (cutT_any h1 y hid (h8.mem_iff.2 hy) (by rw [h8.length_eq]; exact hsz) h4).mono ?_
  rintro e W' ⟨rfl, ⟨Q, X', q1, qp, q2⟩, q3⟩
  exact ⟨rfl, PS.after h1 h2 h3 h4 h5 h6 h7 q1 q2 q3 (lessP_cut (qp.trans h8) hids)⟩
theorem PS.cutNo (h : PS w bs gt v M L W) (id : Int) (hid : In64 id) (hno : ∀ q ∈ L, q.id ≠ id) : Calls Try.prog 15 #[.pointer (some ⟨gt, 0, none⟩), .int .i64 id] W fun e W' => e = .returned (.int .i64 4) ∧ PS w bs gt v M L W' := by
  have hh := h
  obtain ⟨P, X, h1, h2, h3, h4, h5, h6, h7, h8⟩ := h
  refine (cutT_none h1 id hid (fun q hq => hno q (h8.mem_iff.1 hq))).mono ?_
  rintro e W' ⟨rfl, rfl⟩
  exact ⟨rfl, hh⟩
theorem PS.find (h : PS w bs gt v L L W) (hsz : L.length ≤ 1099511627776) (lo hi le : Int) : Calls Try.prog 12 #[.pointer (some ⟨gt, 0, none⟩), .int .i64 lo, .int .i64 hi, .int .i64 le] W fun e W' => ∃ u, e = .returned u ∧ OwnPt W' u (L.filter (withinP lo hi le)) ∧ Fr W W' (fun _ => False) := by
  obtain ⟨P, X, h1, h2, h3, h4, h5, h6, h7, h8⟩ := h
  refine (findT_any h1 (by rw [h8.length_eq]; exact hsz) lo hi le).mono ?_
  rintro e W' ⟨u, T, rfl, q1, q2, q3, q4, q5⟩
  have : T = L.filter (withinP lo hi le) := sorted_unique q3 (h7.sublist List.filter_sublist) (q2.trans (h8.filter _))
  subst this
  exact ⟨u, rfl, q1, q4⟩
theorem PS.len (h : PS w bs gt v M L W) : Calls Try.prog 10 #[.pointer (some ⟨gt, 0, none⟩)] W fun e W' => e = .returned (.int .i64 (L.length : Int)) ∧ W' = W := by
  obtain ⟨P, X, h1, h2, h3, h4, h5, h6, h7, h8⟩ := h
  rw [← h8.length_eq]
  exact len_any h1
theorem PS.top (h : PS w bs gt v M L W) (hne : L ≠ []) : Calls Try.prog 14 #[.pointer (some ⟨gt, 0, none⟩)] W fun e W' => ∃ p : Pt, e = .returned (.tuple #[p.agg, .int .i64 0]) ∧ p ∈ L ∧ (∀ q ∈ L, ¬ aboveP q p) ∧ Fr W W' (fun _ => False) := by
  obtain ⟨P, X, h1, h2, h3, h4, h5, h6, h7, h8⟩ := h
  refine (top_any h1 (fun h => hne (by subst h; exact h8.symm.eq_nil))).mono ?_
  rintro e W' ⟨p, rfl, q1, q2, q3⟩
  exact ⟨p, rfl, h8.mem_iff.1 q1, fun q hq => q2 q (h8.mem_iff.2 hq), q3⟩
end
theorem top_none0 {w : World} {base gt : Nat} {X : Nat → Prop} (h : TR w base gt [] X) : Calls Try.prog 14 #[.pointer (some ⟨gt, 0, none⟩)] w fun e w' => e = .returned (.tuple #[(⟨0, 0, 0⟩ : Pt).agg, .int .i64 5]) ∧ Fr w w' (fun _ => False) := by
  obtain ⟨gm, ra, t, S, h1, h2, h3, h4, h5, _⟩ := h
  have ht : t = .nil := by cases t with | nil => rfl | node p f l r => have := h5.length_eq; simp [PT.pts] at this
  subst ht
  obtain ⟨hra, _⟩ := h3
  cases hra
  have e1 : (w.alloc (.cells #[.int .i64 0, .int .i64 0, .int .i64 0] 28)).cell? ⟨gt, 1, none⟩ = some (.pointer none) := (Fr.alloc w _ (fun _ => False)).cell' (fun h => h) ((cell_of_row _ _ _ _ _ _ h1).trans rfl)
  obtain ⟨x0, x1, x2⟩ := box_pt w ⟨0, 0, 0⟩
  have hz := heap_alloc_new w (.cells #[.int .i64 0, .int .i64 0, .int .i64 0] 28)
  have b0 : BoxAt (w.alloc (.cells #[.int .i64 0, .int .i64 0, .int .i64 0] 28)) w.heap.size ⟨0, 0, 0⟩ := hz
  have z0 := b0.frozen 0
  have z1 := b0.frozen 1
  have z2 := b0.frozen 2
  clear h1 h2 h4 h5 hz b0
  go_enter Try.func14, Try.ntmps14
  go_wp2_with fail
  exact bodyPost_ret (results_pt Try.results14 _ _ w.heap.size (box_pt w ⟨0, 0, 0⟩) rfl) rfl ⟨rfl, Fr.alloc w _ (fun _ => False)⟩
theorem PS.topNone {w W : World} {bs gt : Nat} {v : Value} {M : List Pt} (h : PS w bs gt v M [] W) : Calls Try.prog 14 #[.pointer (some ⟨gt, 0, none⟩)] W fun e W' => e = .returned (.tuple #[(⟨0, 0, 0⟩ : Pt).agg, .int .i64 5]) ∧ Fr W W' (fun _ => False) := by
  obtain ⟨P, X, h1, h2, h3, h4, h5, h6, h7, h8⟩ := h
  have : P = [] := h8.eq_nil
  subst this
  exact top_none0 h1
theorem topR_none (w : World) (a : Option Addr) (c : Nat) : Calls Try.prog 19 #[.slice a 0 c] w fun e w' => e = .returned (.tuple #[(⟨0, 0, 0⟩ : Pt).agg, .int .i64 5]) ∧ Fr w w' (fun _ => False) := by
  have b1 : BoxR (w.alloc (.cells #[.int .i64 0, .int .i64 0, .int .i64 0] 56)) w.heap.size ⟨0, 0, 0⟩ := heap_alloc_new w _
  have z0 := b1.frozen 0
  have z1 := b1.frozen 1
  have z2 := b1.frozen 2
  have HB := hide b1
  clear b1
  go_enter Try.func19, Try.ntmps19
  go_wp2_with fail
  exact bodyPost_ret (results_r Try.results19 _ _ w.heap.size HB.out.pt rfl) rfl ⟨rfl, Fr.alloc w _ (fun _ => False)⟩
theorem top_eq {L : List Pt} {i : Nat} {p p' : Pt} (hs : L.Pairwise aheadP) (hi : L[i]? = some p) (hall : ∀ (j : Nat) (q : Pt), L[j]? = some q → q.y ≤ p.y ∧ (q.y = p.y → i ≤ j)) (hp : p' ∈ L) (hno : ∀ q ∈ L, ¬ aboveP q p') : p' = p := by
  obtain ⟨j, hj⟩ := List.getElem?_of_mem hp
  obtain ⟨h1, h2⟩ := hall j p' hj
  have h3 := hno p (List.mem_of_getElem? hi)
  unfold aboveP at h3
  have h4 : p'.y = p.y := by omega
  have h5 := h2 h4
  rcases Nat.lt_or_ge i j with h | h
  · obtain ⟨hi1, hi2⟩ := List.getElem?_eq_some_iff.1 hi
    obtain ⟨hj1, hj2⟩ := List.getElem?_eq_some_iff.1 hj
    have := List.pairwise_iff_getElem.1 hs i j hi1 hj1 h
    rw [hi2, hj2] at this
    exact absurd (.inr ⟨h4, this⟩) h3
  · have : i = j := by omega
    subst this
    rw [hi] at hj
    cases hj
    rfl
theorem one_pt {w : World} {g : Nat} {p : Pt} (h : BoxAt w g p) : OwnPt w (.slice (some ⟨g, 0, none⟩) 1 1) [p] := ⟨rfl, .inr ⟨g, 1, _, rfl, Nat.zero_le _, h, Nat.le_refl _, by decide, rfl, rfl⟩⟩
theorem one_r {w : World} {g : Nat} {p : Pt} (h : BoxR w g p) : OwnR w (.slice (some ⟨g, 0, none⟩) 1 1) [p] := ⟨rfl, .inr ⟨g, 1, _, rfl, Nat.zero_le _, h, Nat.le_refl _, by decide, rfl, rfl⟩⟩
end Go.Proofs.Ytklnaeldhdhmiaa
