/- A tree of periods within a law: what each call leaves. -/
import Derived.Test.YtanfbfmpppfbhaaIi
namespace Go.Proofs.Ytanfbfmpppfbhaa
open Go.RowKit
set_option maxRecDepth 100000
set_option linter.unusedVariables false
set_option linter.unusedSimpArgs false

/-- A tree made behind w1; all that was there then is as it was. -/
def RA (w1 : World) (gt N : Nat) (L : List Itm) (W : World) : Prop := ∃ X, RT W w1.heap.size gt N L X ∧ Fr w1 W (fun _ => False)
theorem RA.fresh {w1 : World} {gt N : Nat} {L : List Itm} {W W' : World} (h : RA w1 gt N L W) (hf : Fr W W' (fun _ => False)) : RA w1 gt N L W' := by
  obtain ⟨X, h1, h2⟩ := h
  exact ⟨X, h1.fr hf (fun _ _ h => h), (h2.trans hf).mono (by simp)⟩
theorem RA.fr {w1 : World} {gt N : Nat} {L : List Itm} {W : World} (h : RA w1 gt N L W) : Fr w1 W (fun _ => False) := by
  obtain ⟨X, h1, h2⟩ := h
  exact h2
theorem RA.mono {w1 : World} {gt N N' : Nat} {L : List Itm} {W : World} (h : RA w1 gt N L W) (hn : N ≤ N') : RA w1 gt N' L W := by
  obtain ⟨X, h1, h2⟩ := h
  exact ⟨X, h1.mono hn, h2⟩
/-- Blocks of the tree. -/
def Bt (w1 W0 : World) (k : Nat) : Prop := w1.heap.size ≤ k ∧ k < W0.heap.size
theorem new_ra (w1 : World) : Calls Try.prog 15 #[] w1 fun e W => ∃ gt : Nat, e = .returned (.pointer (some ⟨gt, 0, none⟩)) ∧ RA w1 gt 0 [] W := by
  refine (rnew_any w1 w1.heap.size (Nat.le_refl _)).mono ?_
  rintro e W ⟨gt, X, rfl, h1, h2, h3⟩
  exact ⟨gt, rfl, X, h1, h3⟩
section
variable {w1 : World} {gt N : Nat} {L : List Itm} {W0 W : World}
def AddC (w1 : World) (gt N : Nat) (L : List Itm) (p : Itm) (W0 W : World) (e : Ending) (W' : World) : Prop :=
  Fr W W' (Bt w1 W0) ∧ ((rightB p.per = false ∧ e = .returned (.int .i64 40) ∧ RA w1 gt N L W') ∨ (rightB p.per = true ∧ (∃ q ∈ L, q.id = p.id) ∧ e = .returned (.int .i64 90) ∧ RA w1 gt N L W') ∨
    (rightB p.per = true ∧ (∀ q ∈ L, q.id ≠ p.id) ∧ e = .returned (.int .i64 0) ∧ RA w1 gt (N + 1) (L ++ [p]) W'))
theorem RA.add (h : RA w1 gt N L W0) (hf : Fr W0 W (fun _ => False)) (id lo hi : Int) (hid : In64 id) (hN : N + 1 ≤ 1099511627776) :
    Calls Try.prog 18 #[.pointer (some ⟨gt, 0, none⟩), .int .i64 id, .agg #[.int .i64 lo, .int .i64 hi]] W (AddC w1 gt N L ⟨id, lo, hi⟩ W0 W) := by
  obtain ⟨X, h1, h2⟩ := h
  have h3 := h1.fr hf (fun _ _ h => h)
  have hlt := h1.lt
  have hs := h2.size
  have hs2 := hf.size
  refine (add_any h3 id lo hi hid hN (by omega)).mono ?_
  rintro e W' (⟨r, rfl, f⟩ | ⟨r, hq, rfl, f⟩ | ⟨r, hq, rfl, ⟨X', r1, r2⟩, f⟩)
  · exact ⟨f.mono (fun _ _ h => h.elim), .inl ⟨r, rfl, X, h3.fr f (fun _ _ h => h), ((h2.trans hf).trans f).mono (by simp)⟩⟩
  · exact ⟨f.mono (fun _ _ h => h.elim), .inr (.inl ⟨r, hq, rfl, X, h3.fr f (fun _ _ h => h), ((h2.trans hf).trans f).mono (by simp)⟩)⟩
  · refine ⟨f.mono (fun k _ h => hlt k h), .inr (.inr ⟨r, hq, rfl, X', r1, ((h2.trans hf).trans f).mono (fun k hk h => ?_)⟩)⟩
    rcases h with (h | h) | h
    · exact h
    · exact h
    · have := (hlt k h).1; omega
def CutC (w1 : World) (gt N : Nat) (L : List Itm) (id : Int) (W0 W : World) (e : Ending) (W' : World) : Prop :=
  Fr W W' (Bt w1 W0) ∧ RA w1 gt N (without L id) W' ∧ (((∀ q ∈ L, q.id ≠ id) ∧ e = .returned (.int .i64 4)) ∨ ((∃ q ∈ L, q.id = id) ∧ e = .returned (.int .i64 0)))
theorem without_none {L : List Itm} {id : Int} (h : ∀ q ∈ L, q.id ≠ id) : without L id = L := List.filter_eq_self.2 (fun q hq => by simpa using h q hq)
theorem RA.cut (h : RA w1 gt N L W0) (hf : Fr W0 W (fun _ => False)) (id : Int) (hid : In64 id) (hN : N ≤ 1099511627776) :
    Calls Try.prog 23 #[.pointer (some ⟨gt, 0, none⟩), .int .i64 id] W (CutC w1 gt N L id W0 W) := by
  obtain ⟨X, h1, h2⟩ := h
  have h3 := h1.fr hf (fun _ _ h => h)
  have hlt := h1.lt
  have hs := h2.size
  have hs2 := hf.size
  refine (rcut_any h3 id hid hN (by omega)).mono ?_
  rintro e W' (⟨hq, rfl, f⟩ | ⟨hq, rfl, ⟨X', r1, r2⟩, f⟩)
  · exact ⟨f.mono (fun _ _ h => h.elim), ⟨X, by rw [without_none hq]; exact h3.fr f (fun _ _ h => h), ((h2.trans hf).trans f).mono (by simp)⟩, .inl ⟨hq, rfl⟩⟩
  · refine ⟨f.mono (fun k _ h => hlt k h), ⟨X', r1, ((h2.trans hf).trans f).mono (fun k hk h => ?_)⟩, .inr ⟨hq, rfl⟩⟩
    rcases h with (h | h) | h
    · exact h
    · exact h
    · have := (hlt k h).1; omega
def OverC (w1 : World) (gt N : Nat) (L : List Itm) (q : Per) (W0 W : World) (e : Ending) (W' : World) : Prop :=
  Fr W W' (Bt w1 W0) ∧ RA w1 gt (N + 42) L W' ∧ ∃ (v : Value) (A : List Int), e = .returned (.tuple #[v, .int .i64 (codeP q)]) ∧ OwnI W' v A ∧ (rightB q = true → OvA L q A) ∧ (rightB q = false → A = []) ∧ (∀ k, v.ownBlock = some k → W.heap.size ≤ k)
theorem RA.over (h : RA w1 gt N L W0) (hf : Fr W0 W (fun _ => False)) (lo hi : Int) (hN : N ≤ 17179869184) :
    Calls Try.prog 20 #[.pointer (some ⟨gt, 0, none⟩), .agg #[.int .i64 lo, .int .i64 hi]] W (OverC w1 gt N L ⟨lo, hi⟩ W0 W) := by
  obtain ⟨X, h1, h2⟩ := h
  have h3 := h1.fr hf (fun _ _ h => h)
  have hlt := h1.lt
  have hs := h2.size
  have hs2 := hf.size
  refine (roverlap_any h3 lo hi hN (by omega)).mono ?_
  rintro e W' ⟨v, A, rfl, r1, r2, r3, r4, r5, r6⟩
  refine ⟨r6.mono (fun k _ h => hlt k h), ⟨X, r5, ((h2.trans hf).trans r6).mono (fun k hk h => ?_)⟩, v, A, rfl, r1, r2, r3, r4⟩
  rcases h with (h | h) | h
  · exact h
  · exact h
  · have := (hlt k h).1; omega
def StabC (w1 : World) (gt N : Nat) (L : List Itm) (x : Int) (W0 W : World) (e : Ending) (W' : World) : Prop :=
  Fr W W' (Bt w1 W0) ∧ RA w1 gt (N + 42) L W' ∧ ((instB x = true ∧ ∃ (v : Value) (A : List Int), e = .returned (.tuple #[v, .int .i64 0]) ∧ OwnI W' v A ∧ OvA L ⟨x, x + 1⟩ A) ∨ (instB x = false ∧ e = .returned (.tuple #[.slice none 0 0, .int .i64 1])))
theorem inst_right {x : Int} (h : instB x = true) : rightB ⟨x, x + 1⟩ = true := by
  have h := of_decide_eq_true h
  rw [rightB_iff]
  unfold Right
  simp only []
  omega
theorem RA.stab (h : RA w1 gt N L W0) (hf : Fr W0 W (fun _ => False)) (x : Int) (hN : N ≤ 17179869184) :
    Calls Try.prog 22 #[.pointer (some ⟨gt, 0, none⟩), .int .i64 x] W (StabC w1 gt N L x W0 W) := by
  obtain ⟨X, h1, h2⟩ := h
  have h3 := h1.fr hf (fun _ _ h => h)
  have hlt := h1.lt
  have hs := h2.size
  have hs2 := hf.size
  refine (stab_any h3 x hN (by omega)).mono ?_
  rintro e W' (⟨hi, v, A, rfl, r1, r2, r3, r4, r5, r6⟩ | ⟨hi, rfl, f⟩)
  · have hr := inst_right hi
    refine ⟨r6.mono (fun k _ h => hlt k h), ⟨X, r5, ((h2.trans hf).trans r6).mono (fun k hk h => ?_)⟩, .inl ⟨hi, v, A, by rw [codeP_ok _ hr], r1, r2 hr⟩⟩
    rcases h with (h | h) | h
    · exact h
    · exact h
    · have := (hlt k h).1; omega
  · exact ⟨f.mono (fun _ _ h => h.elim), ⟨X, (h3.fr f (fun _ _ h => h)).mono (by omega), ((h2.trans hf).trans f).mono (by simp)⟩, .inr ⟨hi, rfl⟩⟩
theorem RA.len (h : RA w1 gt N L W) : Calls Try.prog 17 #[.pointer (some ⟨gt, 0, none⟩)] W fun e W' => e = .returned (.int .i64 (L.length : Int)) ∧ W' = W := by
  obtain ⟨X, h1, h2⟩ := h
  exact rlen_any h1
end
/-- The periods of a list that are right, numbered from s on. -/
def its (s : Int) (L : List Per) (j : Nat) : List Itm := (List.range j).filterMap fun i : Nat => (L[i]?).bind fun p => if rightB p = true then some ⟨s + (i : Int), p.lo, p.hi⟩ else none
theorem its_zero (s : Int) (L : List Per) : its s L 0 = [] := rfl
theorem its_succ (s : Int) {L : List Per} {j : Nat} {p : Per} (h : L[j]? = some p) : its s L (j + 1) = its s L j ++ (if rightB p = true then [⟨s + (j : Int), p.lo, p.hi⟩] else []) := by
  unfold its
  rw [List.range_succ, List.filterMap_append]
  congr 1
  by_cases hr : rightB p = true
  · simp [h, hr]
  · simp [h, hr]
theorem its_mem {s : Int} {L : List Per} {j : Nat} {q : Itm} (h : q ∈ its s L j) : ∃ i, i < j ∧ q.id = s + (i : Int) ∧ ∃ p, L[i]? = some p ∧ rightB p = true ∧ q = ⟨s + (i : Int), p.lo, p.hi⟩ := by
  unfold its at h
  obtain ⟨i, hi, h⟩ := List.mem_filterMap.1 h
  have hi := List.mem_range.1 hi
  cases hp : L[i]? with
  | none => rw [hp] at h; cases h
  | some p =>
    rw [hp] at h
    simp only [Option.bind_some] at h
    split at h
    · rename_i hr
      cases h
      exact ⟨i, hi, rfl, p, hp, hr, rfl⟩
    · cases h
theorem its_in {s : Int} {L : List Per} {j i : Nat} {p : Per} (hi : i < j) (hp : L[i]? = some p) (hr : rightB p = true) : (⟨s + (i : Int), p.lo, p.hi⟩ : Itm) ∈ its s L j := by
  unfold its
  refine List.mem_filterMap.2 ⟨i, List.mem_range.2 hi, ?_⟩
  rw [hp]
  simp [hr]
theorem its_len (s : Int) (L : List Per) (j : Nat) : (its s L j).length ≤ j := by
  unfold its
  have := List.length_filterMap_le (fun i : Nat => (L[i]?).bind fun p => if rightB p = true then some (⟨s + (i : Int), p.lo, p.hi⟩ : Itm) else none) (List.range j)
  rwa [List.length_range] at this
end Go.Proofs.Ytanfbfmpppfbhaa
