/- pairs, plainly. -/
import Derived.Test.YtlapifncplbcnaaGreatJq
namespace Go.Proofs.YtlapifncplbcnaaGreat
open Go.RowKit Go.Sort Go.Shelf
set_option linter.unusedVariables false
set_option linter.unusedSimpArgs false

/-- A pair of two lists. -/
structure PrOf (A B : List St) (s : St) : Prop where
  of : ∃ x ∈ A, ∃ y ∈ B, s.row = x.row ++ y.row ∧ s.n = x.n * y.n ∧ s.lo = max x.lo y.lo ∧ s.hi = min x.hi y.hi
  lt : s.lo < s.hi
/-- What stands while pairs are taken. -/
structure PT (A B : List St) (i j : Nat) (S : List St) : Prop where
  cnt : ∀ r t, sumR S r t + J (A.drop i) (B.drop j) r t = J A B r t
  len : S.length + (A.length - i) * (B.length - j) ≤ A.length * B.length
  abs : absS S + absS (A.drop i) * absS (B.drop j) ≤ absS A * absS B
  prs : ∀ s ∈ S, PrOf A B s
theorem PT.start (A B : List St) : PT A B 0 0 [] := ⟨fun r t => by simp [sumR, sumS, tot], by simp, by simp [absS, tot], by simp⟩
/-- While one is taken with those that begin within it. -/
structure PI (A B : List St) (S : List St) (J1 : List Val → Int → Int) (k : Nat) (a1 : Int) (Sk : List St) : Prop where
  cnt : ∀ r t, sumR Sk r t = sumR S r t + J1 r t
  len : Sk.length = S.length + k
  abs : absS Sk = absS S + a1
  prs : ∀ s ∈ Sk, PrOf A B s
theorem J_nil_right (A : List St) (r : List Val) (t : Int) : J A [] r t = 0 := by
  unfold J
  exact tot_zero (fun _ _ => rfl)
theorem J_zero {A B : List St} {r : List Val} {t : Int} (h : ∀ x ∈ A, ∀ y ∈ B, x.hi ≤ y.lo ∨ y.hi ≤ x.lo) : J A B r t = 0 := tot_zero (fun x hx => tot_zero (fun y hy => jn_apart (h x hx y hy) r t))
theorem J_one (x y : St) (r : List Val) (t : Int) : J [x] [y] r t = jn x y r t := by simp [J, tot]
theorem PI.start {A B : List St} {S : List St} (x : St) (h : ∀ s ∈ S, PrOf A B s) : PI A B S (fun r t => J [x] [] r t) 0 (x.n * absS []) S := ⟨fun r t => by rw [J_nil_right]; omega, rfl, by simp [absS, tot], h⟩
theorem PI.start' {A B : List St} {S : List St} (y : St) (h : ∀ s ∈ S, PrOf A B s) : PI A B S (fun r t => J [] [y] r t) 0 (absS [] * y.n) S := ⟨fun r t => by simp [J, tot], rfl, by simp [absS, tot], h⟩
theorem absS_pair (p : Option Addr) (c : Nat) {x y : St} (hx : 0 ≤ x.n) (hy : 0 ≤ y.n) : absS [pairS p c x y] = x.n * y.n := by
  have := Int.mul_nonneg hx hy
  simp only [absS, tot, pairS]
  omega
theorem absS_one_step {x : St} (hx : 0 ≤ x.n) : absS [x] = x.n := by simp only [absS, tot]; omega
theorem PI.next {A B : List St} {S Sk Y : List St} {x y : St} {k : Nat} (h : PI A B S (fun r t => J [x] (Y.take k) r t) k (x.n * absS (Y.take k)) Sk) (hy : Y[k]? = some y) (hx : x ∈ A) (hyB : y ∈ B) (hxn : 0 ≤ x.n) (hyn : 0 ≤ y.n) (hlt : max x.lo y.lo < min x.hi y.hi) (p : Option Addr) (c : Nat) :
    PI A B S (fun r t => J [x] (Y.take (k + 1)) r t) (k + 1) (x.n * absS (Y.take (k + 1))) (Sk ++ [pairS p c x y]) := by
  refine ⟨fun r t => ?_, by rw [List.length_append, h.len]; rfl, ?_, fun s hs => ?_⟩
  · rw [sumR_append, h.cnt r t, sumR_pair, take_snoc hy, J_append_right, J_one]
    omega
  · rw [absS_append, h.abs, absS_pair p c hxn hyn, take_snoc hy, absS_append, absS_one_step hyn, Int.mul_add]
    omega
  · rcases List.mem_append.1 hs with hs | hs
    · exact h.prs s hs
    · rw [List.mem_singleton.1 hs]
      exact ⟨⟨x, hx, y, hyB, rfl, rfl, rfl, rfl⟩, hlt⟩
theorem PI.next' {A B : List St} {S Sk X : List St} {x y : St} {k : Nat} (h : PI A B S (fun r t => J (X.take k) [y] r t) k (absS (X.take k) * y.n) Sk) (hx : X[k]? = some x) (hxA : x ∈ A) (hyB : y ∈ B) (hxn : 0 ≤ x.n) (hyn : 0 ≤ y.n) (hlt : max x.lo y.lo < min x.hi y.hi) (p : Option Addr) (c : Nat) :
    PI A B S (fun r t => J (X.take (k + 1)) [y] r t) (k + 1) (absS (X.take (k + 1)) * y.n) (Sk ++ [pairS p c x y]) := by
  refine ⟨fun r t => ?_, by rw [List.length_append, h.len]; rfl, ?_, fun s hs => ?_⟩
  · rw [sumR_append, h.cnt r t, sumR_pair, take_snoc hx, J_append_left, J_one]
    omega
  · rw [absS_append, h.abs, absS_pair p c hxn hyn, take_snoc hx, absS_append, absS_one_step hxn, Int.add_mul]
    omega
  · rcases List.mem_append.1 hs with hs | hs
    · exact h.prs s hs
    · rw [List.mem_singleton.1 hs]
      exact ⟨⟨x, hxA, y, hyB, rfl, rfl, rfl, rfl⟩, hlt⟩
theorem drop_cons {α : Type} {a : List α} {i : Nat} {x : α} (h : a[i]? = some x) : a.drop i = x :: a.drop (i + 1) := by
  obtain ⟨h1, h2⟩ := List.getElem?_eq_some_iff.1 h
  rw [List.drop_eq_getElem_cons h1, h2]
theorem absS_cons {x : St} (hx : 0 ≤ x.n) (l : List St) : absS (x :: l) = x.n + absS l := by simp only [absS, tot]; omega
/-- The first of the first list is done. -/
theorem PT.left {A B : List St} {i j k : Nat} {S S' : List St} {x : St} (h : PT A B i j S) (hx : A[i]? = some x) (hxn : 0 ≤ x.n) (hk : k ≤ B.length - j) (hI : PI A B S (fun r t => J [x] ((B.drop j).take k) r t) k (x.n * absS ((B.drop j).take k)) S')
    (hr : ∀ y ∈ (B.drop j).drop k, x.hi ≤ y.lo) : PT A B (i + 1) j S' := by
  have hd := drop_cons hx
  have hil := (List.getElem?_eq_some_iff.1 hx).1
  have hsp : (B.drop j) = (B.drop j).take k ++ (B.drop j).drop k := (List.take_append_drop ..).symm
  refine ⟨fun r t => ?_, ?_, ?_, hI.prs⟩
  · rw [← h.cnt r t, hI.cnt r t, hd]
    have e1 : J (x :: A.drop (i + 1)) (B.drop j) r t = J [x] (B.drop j) r t + J (A.drop (i + 1)) (B.drop j) r t := J_append_left [x] _ _ r t
    have e2 : J [x] (B.drop j) r t = J [x] ((B.drop j).take k) r t + J [x] ((B.drop j).drop k) r t := by rw [← J_append_right, ← hsp]
    have e3 : J [x] ((B.drop j).drop k) r t = 0 := J_zero (fun x' hx' y hy => by rw [List.mem_singleton.1 hx']; exact .inl (hr y hy))
    omega
  · have h1 := h.len
    rw [hI.len]
    obtain ⟨n, hn⟩ : ∃ n, A.length - i = n + 1 := ⟨A.length - i - 1, by omega⟩
    rw [hn, Nat.add_mul, Nat.one_mul] at h1
    rw [show A.length - (i + 1) = n by omega]
    omega
  · have h1 := h.abs
    rw [hI.abs]
    rw [hd, absS_cons hxn, Int.add_mul] at h1
    have h2 : absS ((B.drop j).take k) ≤ absS (B.drop j) := by
      have : absS (B.drop j) = absS ((B.drop j).take k) + absS ((B.drop j).drop k) := by rw [← absS_append, ← hsp]
      have := absS_nonneg ((B.drop j).drop k)
      omega
    have h3 := Int.mul_le_mul_of_nonneg_left h2 hxn
    omega
theorem PT.right {A B : List St} {i j k : Nat} {S S' : List St} {y : St} (h : PT A B i j S) (hy : B[j]? = some y) (hyn : 0 ≤ y.n) (hk : k ≤ A.length - i) (hI : PI A B S (fun r t => J ((A.drop i).take k) [y] r t) k (absS ((A.drop i).take k) * y.n) S')
    (hr : ∀ x ∈ (A.drop i).drop k, y.hi ≤ x.lo) : PT A B i (j + 1) S' := by
  have hd := drop_cons hy
  have hil := (List.getElem?_eq_some_iff.1 hy).1
  have hsp : (A.drop i) = (A.drop i).take k ++ (A.drop i).drop k := (List.take_append_drop ..).symm
  refine ⟨fun r t => ?_, ?_, ?_, hI.prs⟩
  · rw [← h.cnt r t, hI.cnt r t, hd]
    have e1 : J (A.drop i) (y :: B.drop (j + 1)) r t = J (A.drop i) [y] r t + J (A.drop i) (B.drop (j + 1)) r t := J_append_right _ [y] _ r t
    have e2 : J (A.drop i) [y] r t = J ((A.drop i).take k) [y] r t + J ((A.drop i).drop k) [y] r t := by rw [← J_append_left, ← hsp]
    have e3 : J ((A.drop i).drop k) [y] r t = 0 := J_zero (fun x hx y' hy' => by rw [List.mem_singleton.1 hy']; exact .inr (hr x hx))
    omega
  · have h1 := h.len
    rw [hI.len]
    obtain ⟨n, hn⟩ : ∃ n, B.length - j = n + 1 := ⟨B.length - j - 1, by omega⟩
    rw [hn, Nat.mul_add, Nat.mul_one] at h1
    rw [show B.length - (j + 1) = n by omega]
    omega
  · have h1 := h.abs
    rw [hI.abs]
    rw [hd, absS_cons hyn, Int.mul_add] at h1
    have h2 : absS ((A.drop i).take k) ≤ absS (A.drop i) := by
      have : absS (A.drop i) = absS ((A.drop i).take k) + absS ((A.drop i).drop k) := by rw [← absS_append, ← hsp]
      have := absS_nonneg ((A.drop i).drop k)
      omega
    have h3 := Int.mul_le_mul_of_nonneg_right h2 hyn
    omega
theorem PT.done {A B : List St} {i j : Nat} {S : List St} (h : PT A B i j S) (he : A.length ≤ i ∨ B.length ≤ j) : ∀ r t, sumR S r t = J A B r t := by
  intro r t
  rw [← h.cnt r t]
  rcases he with he | he
  · rw [List.drop_eq_nil_of_le he]; simp [J, tot]
  · rw [List.drop_eq_nil_of_le he, J_nil_right]; omega
theorem PT.room {A B : List St} {i j : Nat} {S : List St} (h : PT A B i j S) (hi : i < A.length) (hj : j < B.length) {k : Nat} (hk : k ≤ B.length - j ∨ k ≤ A.length - i) : S.length + k ≤ A.length * B.length := by
  have h1 := h.len
  obtain ⟨n, hn⟩ : ∃ n, A.length - i = n + 1 := ⟨A.length - i - 1, by omega⟩
  obtain ⟨m, hm⟩ : ∃ m, B.length - j = m + 1 := ⟨B.length - j - 1, by omega⟩
  rw [hn, hm] at h1 hk
  have e : (n + 1) * (m + 1) = n * m + n + m + 1 := by rw [Nat.add_mul, Nat.mul_add, Nat.one_mul]; omega
  rw [e] at h1
  have := Nat.zero_le (n * m)
  rcases hk with hk | hk <;> omega
theorem lo_after {T : List St} (hs : Srt T) {i j : Nat} {x y : St} (hx : T[i]? = some x) (hy : T[j]? = some y) (hij : i ≤ j) : x.lo ≤ y.lo := by
  by_cases e : i = j
  · subst e; rw [hx] at hy; injection hy with hy; rw [hy]; exact Int.le_refl _
  · obtain ⟨h1, h2⟩ := List.getElem?_eq_some_iff.1 hx
    obtain ⟨h3, h4⟩ := List.getElem?_eq_some_iff.1 hy
    have := List.pairwise_iff_getElem.1 hs i j h1 h3 (by omega)
    rw [h2, h4] at this
    unfold cmpI at this
    by_cases c : y.lo < x.lo
    · rw [if_pos c] at this; omega
    · omega
theorem lo_rest {T : List St} (hs : Srt T) {j k : Nat} {z : Int} (h : ∀ y, (T.drop j)[k]? = some y → z ≤ y.lo) : ∀ y ∈ (T.drop j).drop k, z ≤ y.lo := by
  intro y hy
  obtain ⟨q, hq⟩ := List.mem_iff_getElem?.1 hy
  rw [List.drop_drop, List.getElem?_drop] at hq
  have hl := (List.getElem?_eq_some_iff.1 hq).1
  obtain ⟨y0, hy0⟩ : ∃ y0, T[j + k]? = some y0 := ⟨_, List.getElem?_eq_getElem (by omega)⟩
  have h1 := h y0 (by rw [List.getElem?_drop]; exact hy0)
  have h2 := lo_after hs hy0 hq (by omega)
  omega
theorem over_meet {x y : St} (hx : 0 ≤ x.lo ∧ x.lo < x.hi ∧ x.hi ≤ 1099511627776) (hy : 0 ≤ y.lo ∧ y.lo < y.hi ∧ y.hi ≤ 1099511627776) (h : max x.lo y.lo < min x.hi y.hi) : overP ⟨x.lo, x.hi⟩ ⟨y.lo, y.hi⟩ = ⟨max x.lo y.lo, min x.hi y.hi⟩ := by
  have h1 : rightB ⟨x.lo, x.hi⟩ = true := (rightB_iff _).2 hx
  have h2 : rightB ⟨y.lo, y.hi⟩ = true := (rightB_iff _).2 hy
  have h3 : rightB (bothP ⟨x.lo, x.hi⟩ ⟨y.lo, y.hi⟩) = true := by
    rw [rightB_iff]
    unfold Right bothP
    simp only
    omega
  unfold overP
  rw [if_pos (by unfold overB; rw [h1, h2, h3]; rfl)]
  rfl
/-- The box of the pairs. -/
structure JS (B bo : Nat) (W : World) (v : Value) (S : List St) : Prop where
  b : Bx1 W bo v
  o : Own elS W v S
  row : ∀ s ∈ S, Rok W (fun k => B ≤ k ∧ v.ownBlock ≠ some k) s.p s.c s.row
  n : ∀ k, v.ownBlock = some k → B ≤ k
theorem JS.fr {B bo : Nat} {W W' : World} {v : Value} {S : List St} (h : JS B bo W v S) (hf : Fr W W' (fun _ => False)) : JS B bo W' v S :=
  ⟨h.b.fr hf (fun h => h), h.o.fr hf (fun _ _ h => h), fun s hs => (h.row s hs).fr hf (fun _ _ _ h => h), h.n⟩
theorem JS.take {B bo : Nat} {W W' : World} {v v' : Value} {S : List St} {x y : St} {p : Option Addr} {c : Nat} (h : JS B bo W v S) (hB : bo < B) (hbz : B ≤ W.heap.size) (hb : Bx1 W' bo v') (ho : Own elS W' v' (S ++ [pairS p c x y]))
    (hr : Rok W' (fun k => W.heap.size ≤ k ∧ v'.ownBlock ≠ some k) p c (x.row ++ y.row)) (hf : Fr W W' (fun k => k = bo ∨ v.ownBlock = some k)) (hfr : Fresh W v v') : JS B bo W' v' (S ++ [pairS p c x y]) := by
  refine ⟨hb, ho, fun s hs => ?_, hfr.le hbz h.n⟩
  rcases List.mem_append.1 hs with hs | hs
  · have e3 : Rok W (fun k => B ≤ k ∧ v.ownBlock ≠ some k ∧ v'.ownBlock ≠ some k) s.p s.c s.row := (h.row s hs).mono (fun k hlt hk => ⟨hk.1, hk.2, fun e => by
        rcases hfr with h1 | ⟨q, h1, h2⟩
        · exact hk.2 (by rw [← h1]; exact e)
        · rw [h1] at e; injection e with e; omega⟩)
    exact (e3.fr hf (fun k _ hk e => by rcases e with e | e; have := hk.1; omega; exact hk.2.1 e)).mono (fun k _ hk => ⟨hk.1, hk.2.2⟩)
  · rw [List.mem_singleton.1 hs]
    exact hr.mono (fun k _ hk => ⟨by have := hk.1; omega, hk.2⟩)
end Go.Proofs.YtlapifncplbcnaaGreat
