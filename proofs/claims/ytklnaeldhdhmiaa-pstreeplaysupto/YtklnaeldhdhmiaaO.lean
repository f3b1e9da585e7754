/- What the laws on trees keep: the points of a list of periods; sorted lists; lists put together. -/
import Derived.Test.YtklnaeldhdhmiaaN
import Derived.Maps.AppendAt
namespace Go.Proofs.Ytklnaeldhdhmiaa
open Go.RowKit Go.Sort Go.Maps
set_option maxRecDepth 100000
set_option linter.unusedVariables false
set_option linter.unusedSimpArgs false

/-- Two lists in order of the same points are one. -/
theorem sorted_unique : ∀ {T U : List Pt}, T.Pairwise aheadP → U.Pairwise aheadP → T.Perm U → T = U
  | [], U, _, _, hp => (List.perm_nil.1 hp.symm).symm
  | x :: T, [], _, _, hp => absurd (List.perm_nil.1 hp) (by simp)
  | x :: T, y :: U, h1, h2, hp => by
    obtain ⟨a1, a2⟩ := List.pairwise_cons.1 h1
    obtain ⟨b1, b2⟩ := List.pairwise_cons.1 h2
    have hxy : x = y := by
      rcases List.mem_cons.1 (hp.mem_iff.1 (List.mem_cons_self)) with h | h
      · exact h
      · rcases List.mem_cons.1 (hp.mem_iff.2 (List.mem_cons_self (a := y) (l := U))) with h' | h'
        · exact h'.symm
        · have := a1 y h'
          have := b1 x h
          unfold aheadP at *
          omega
    subst hxy
    rw [sorted_unique a2 b2 (List.Perm.cons_inv hp)]
/-- The points of the first periods of a list. -/
def ptsN (L : List (Int × Int)) : Nat → List Pt
  | 0 => []
  | k + 1 => match L[k]? with
    | some x => ⟨x.1, x.2, k⟩ :: ptsN L k
    | none => ptsN L k
theorem ptsN_succ {L : List (Int × Int)} {k : Nat} {x : Int × Int} (h : L[k]? = some x) : ptsN L (k + 1) = ⟨x.1, x.2, k⟩ :: ptsN L k := by
  simp only [ptsN, h]
theorem ptsN_mem {L : List (Int × Int)} : ∀ {k : Nat} {q : Pt}, q ∈ ptsN L k ↔ ∃ (i : Nat) (x : Int × Int), i < k ∧ L[i]? = some x ∧ q = ⟨x.1, x.2, i⟩
  | 0, q => by simp [ptsN]
  | k + 1, q => by
    unfold ptsN
    cases h : L[k]? with
    | none =>
      simp only
      rw [ptsN_mem]
      constructor
      · rintro ⟨i, x, h1, h2⟩; exact ⟨i, x, by omega, h2⟩
      · rintro ⟨i, x, h1, h2, h3⟩
        refine ⟨i, x, ?_, h2, h3⟩
        rcases Nat.lt_or_ge i k with h4 | h4
        · exact h4
        · have : i = k := by omega
          subst this
          rw [h] at h2; cases h2
    | some x =>
      simp only [List.mem_cons]
      rw [ptsN_mem]
      constructor
      · rintro (rfl | ⟨i, y, h1, h2⟩)
        · exact ⟨k, x, by omega, h, rfl⟩
        · exact ⟨i, y, by omega, h2⟩
      · rintro ⟨i, y, h1, h2, h3⟩
        rcases Nat.lt_or_ge i k with h4 | h4
        · exact .inr ⟨i, y, h4, h2, h3⟩
        · have : i = k := by omega
          subst this
          rw [h] at h2; cases h2
          exact .inl h3
theorem ptsN_length {L : List (Int × Int)} : ∀ {k : Nat}, k ≤ L.length → (ptsN L k).length = k
  | 0, _ => rfl
  | k + 1, h => by
    have hk : L[k]? = some L[k] := List.getElem?_eq_getElem (by omega)
    rw [ptsN_succ hk, List.length_cons, ptsN_length (by omega)]
theorem ptsN_new {L : List (Int × Int)} {k : Nat} : ∀ q ∈ ptsN L k, q.id ≠ (k : Int) := fun q hq => by
  obtain ⟨i, x, h1, _, h3⟩ := ptsN_mem.1 hq
  subst h3
  show (i : Int) ≠ k
  omega
/-- Periods that come in. -/
def PersIn (w : World) (a : Option Addr) (L : List (Int × Int)) : Prop := ∀ (i : Nat) (x : Int × Int), L[i]? = some x → ∃ g off, a = some ⟨g, off, none⟩ ∧ g < w.heap.size ∧ w.cell? ⟨g, off + i * 2, none⟩ = some (.int .i64 x.1) ∧ w.cell? ⟨g, off + i * 2 + 1, none⟩ = some (.int .i64 x.2)
theorem app_pts {w : World} {v u : Value} {L M : List Pt} (hown : OwnPt w v L) (hu : OwnPt w u M) (ty : TypeId) (hn : L.length + M.length ≤ 2199023255552) :
    ∃ v' w', (Builtin.append_ #[35, 35] ty #[v, u]).run Try.prog w = .ok v' w' ∧ OwnPt w' v' (L ++ M) ∧ Fr w w' (fun k => v.ownBlock = some k) ∧ Fresh w v v' := by
  obtain ⟨i, hi, hz, hs, hb⟩ := full28
  rcases hu.2 with ⟨h1, h2⟩ | ⟨g, cap, cur, h1, _⟩
  · have : M = [] := List.eq_nil_of_length_eq_zero h2
    subst this h1
    have hr := run_append_owned_none (P := Try.prog) w 0 35 ty 28 i 3 Try.underlying35 hi v L.length (encPs L) hown
    exact ⟨v, w, hr, by simpa using hown, Fr.refl _ _, .inl rfl⟩
  · subst h1
    obtain ⟨v', w', hr, q1, q2, q3⟩ := run_append_gen (P := Try.prog) w 35 ty 28 i _ 3 24 Try.underlying35 hi hz hs hb rfl (by omega) v L.length (encPs L) hown ⟨g, 0, none⟩ M.length cap (encPs M) (length_encPs M) (fun j x hx => by
      obtain ⟨g', hg', hc⟩ := row_cell hu hx
      cases hg'
      rw [Addr.add_mid, Nat.zero_add]
      exact hc) (fun x hx => encPs_some hx) (by unfold maxLen; omega) (by omega)
    refine ⟨v', w', hr, ?_, Fr.grown q2, q3⟩
    unfold OwnPt
    rw [List.length_append, encPs_append]
    exact q1
theorem own_pt {w : World} {a : Option Addr} {n c : Nat} {T : List Pt} {i : Nat} {p : Pt} (h : OwnPt w (.slice a n c) T) (hi : T[i]? = some p) : ∃ g, a = some ⟨g, 0, none⟩ ∧ PtAt w g (i * 3) p := by
  have hn : n = T.length := by obtain ⟨a', c', h1⟩ := shape_n h; cases h1; rfl
  subst hn
  have e := encPs_get T i p hi
  obtain ⟨g, ha, c0⟩ := row_cell h (i := i * 3) (u := .int .i64 p.x) (by have h0 := e 0 (by omega); rw [Nat.add_zero] at h0; rw [h0]; rfl)
  obtain ⟨g1, ha1, c1⟩ := row_cell h (i := i * 3 + 1) (u := .int .i64 p.y) (by rw [e 1 (by omega)]; rfl)
  obtain ⟨g2, ha2, c2⟩ := row_cell h (i := i * 3 + 2) (u := .int .i64 p.id) (by rw [e 2 (by omega)]; rfl)
  rw [ha] at ha1 ha2
  cases ha1
  cases ha2
  exact ⟨g, ha, c0, c1, c2⟩
/-- What lies within is what lies within one part and within the other. -/
theorem split_find {P T1 T2 T3 : List Pt} {lo mid hi le : Int} (h1 : lo ≤ mid) (h2 : mid < hi) (p1 : T1.Perm (P.filter (withinP lo hi le))) (s1 : T1.Pairwise aheadP) (p2 : T2.Perm (P.filter (withinP lo mid le))) (s2 : T2.Pairwise aheadP) (p3 : T3.Perm (P.filter (withinP (mid + 1) hi le))) (s3 : T3.Pairwise aheadP) : T1 = T2 ++ T3 := by
  refine sorted_unique s1 ?_ ?_
  · refine List.pairwise_append.2 ⟨s2, s3, fun x hx y hy => ?_⟩
    have hx' := (List.mem_filter.1 (p2.mem_iff.1 hx)).2
    have hy' := (List.mem_filter.1 (p3.mem_iff.1 hy)).2
    unfold withinP at hx' hy'
    simp at hx' hy'
    left
    omega
  · refine p1.trans (List.Perm.trans ?_ (List.Perm.append p2 p3).symm)
    clear p1 p2 p3 s1 s2 s3
    induction P with
    | nil => exact List.Perm.refl _
    | cons q P ih =>
      have hcases : (withinP lo hi le q = true ∧ withinP lo mid le q = true ∧ withinP (mid + 1) hi le q = false) ∨ (withinP lo hi le q = true ∧ withinP lo mid le q = false ∧ withinP (mid + 1) hi le q = true) ∨ (withinP lo hi le q = false ∧ withinP lo mid le q = false ∧ withinP (mid + 1) hi le q = false) := by
        unfold withinP
        by_cases a : lo ≤ q.x <;> by_cases b : q.x ≤ mid <;> by_cases c : q.x ≤ hi <;> by_cases d : le ≤ q.y <;> by_cases e : mid + 1 ≤ q.x <;> simp [a, b, c, d, e] <;> omega
      rcases hcases with ⟨a, b, c⟩ | ⟨a, b, c⟩ | ⟨a, b, c⟩
      · simp only [List.filter_cons, a, b, c, if_true, Bool.false_eq_true, if_false, List.cons_append]
        exact ih.cons q
      · simp only [List.filter_cons, a, b, c, if_true, Bool.false_eq_true, if_false]
        exact (ih.cons q).trans List.perm_middle.symm
      · simp only [List.filter_cons, a, b, c, Bool.false_eq_true, if_false]
        exact ih
theorem less_find {P T1 T5 : List Pt} {lo hi le le2 : Int} (h : le ≤ le2) (p1 : T1.Perm (P.filter (withinP lo hi le))) (p5 : T5.Perm (P.filter (withinP lo hi le2))) : T5.length ≤ T1.length := by
  rw [p1.length_eq, p5.length_eq]
  clear p1 p5
  induction P with
  | nil => exact Nat.le_refl _
  | cons q P ih =>
    have himp : withinP lo hi le2 q = true → withinP lo hi le q = true := by
      unfold withinP
      simp
      intro a b c
      exact ⟨⟨a, b⟩, by omega⟩
    simp only [List.filter_cons]
    by_cases a : withinP lo hi le2 q = true
    · rw [if_pos a, if_pos (himp a)]
      simp only [List.length_cons]
      omega
    · rw [if_neg a]
      split
      · simp only [List.length_cons]; omega
      · exact ih
theorem none_find {P T : List Pt} {lo hi le : Int} (h : hi < lo) (p : T.Perm (P.filter (withinP lo hi le))) : T = [] := by
  rw [filter_none (fun q _ => by unfold withinP; by_cases a : lo ≤ q.x <;> by_cases b : q.x ≤ hi <;> simp [a, b]; omega)] at p
  exact List.perm_nil.1 p
end Go.Proofs.Ytklnaeldhdhmiaa
