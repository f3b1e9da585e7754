/- Steps, edges, pieces: plainly. -/
import Derived.Test.YtlapifncplbcnaaGreatPa
import Derived.Test.YtlapifncplbcnaaGreatEl
namespace Go.Proofs.YtlapifncplbcnaaGreat
set_option linter.unusedVariables false
set_option linter.unusedSimpArgs false

/-- A sum over a list. -/
def tot {α : Type} (f : α → Int) : List α → Int
  | [] => 0
  | x :: l => f x + tot f l
theorem tot_append {α : Type} (f : α → Int) (a b : List α) : tot f (a ++ b) = tot f a + tot f b := by
  induction a with
  | nil => simp [tot]
  | cons x a ih => simp only [List.cons_append, tot, ih]; omega
theorem tot_perm {α : Type} (f : α → Int) {a b : List α} (h : a.Perm b) : tot f a = tot f b := by
  induction h with
  | nil => rfl
  | cons x _ ih => simp only [tot, ih]
  | swap x y l => simp only [tot]; omega
  | trans _ _ h1 h2 => rw [h1, h2]
theorem tot_congr {α : Type} {f g : α → Int} {a : List α} (h : ∀ x ∈ a, f x = g x) : tot f a = tot g a := by
  induction a with
  | nil => rfl
  | cons x a ih => simp only [tot]; rw [h x (List.mem_cons_self ..), ih (fun y hy => h y (List.mem_cons_of_mem _ hy))]
theorem tot_zero {α : Type} {f : α → Int} {a : List α} (h : ∀ x ∈ a, f x = 0) : tot f a = 0 := by
  induction a with
  | nil => rfl
  | cons x a ih => simp only [tot]; rw [h x (List.mem_cons_self ..), ih (fun y hy => h y (List.mem_cons_of_mem _ hy))]; rfl
theorem tot_le {α : Type} {f g : α → Int} {a : List α} (h : ∀ x ∈ a, f x ≤ g x) : tot f a ≤ tot g a := by
  induction a with
  | nil => exact Int.le_refl _
  | cons x a ih => simp only [tot]; have h1 := h x (List.mem_cons_self ..); have h2 := ih (fun y hy => h y (List.mem_cons_of_mem _ hy)); omega
theorem tot_nonneg {α : Type} {f : α → Int} {a : List α} (h : ∀ x, 0 ≤ f x) : 0 ≤ tot f a := by
  induction a with
  | nil => exact Int.le_refl _
  | cons x a ih => simp only [tot]; have := h x; omega
theorem tot_add {α : Type} (f g : α → Int) (a : List α) : tot (fun x => f x + g x) a = tot f a + tot g a := by
  induction a with
  | nil => rfl
  | cons x a ih => simp only [tot, ih]; omega
theorem tot_take_le {α : Type} {f : α → Int} {a : List α} (h : ∀ x, 0 ≤ f x) (i : Nat) : tot f (a.take i) ≤ tot f a := by
  have h1 : tot f a = tot f (a.take i) + tot f (a.drop i) := by rw [← tot_append, List.take_append_drop]
  have h2 := tot_nonneg (f := f) (a := a.drop i) h
  omega
theorem take_snoc {α : Type} {a : List α} {i : Nat} {x : α} (h : a[i]? = some x) : a.take (i + 1) = a.take i ++ [x] := by
  rw [List.take_add_one, h]; rfl
/-- How often, at an instant. -/
def sumS (S : List St) (t : Int) : Int := tot (fun s => if s.lo ≤ t ∧ t < s.hi then s.n else 0) S
/-- All together. -/
def absS (S : List St) : Int := tot (fun s => (s.n.natAbs : Int)) S
theorem sumS_append (a b : List St) (t : Int) : sumS (a ++ b) t = sumS a t + sumS b t := tot_append _ _ _
theorem absS_append (a b : List St) : absS (a ++ b) = absS a + absS b := tot_append _ _ _
theorem sumS_perm {a b : List St} (h : a.Perm b) (t : Int) : sumS a t = sumS b t := tot_perm _ h
theorem absS_perm {a b : List St} (h : a.Perm b) : absS a = absS b := tot_perm _ h
theorem absS_nonneg (S : List St) : 0 ≤ absS S := tot_nonneg (fun s => by omega)
theorem absS_mem {S : List St} {s : St} (h : s ∈ S) : (s.n.natAbs : Int) ≤ absS S := by
  obtain ⟨a, b, rfl⟩ := List.append_of_mem h
  rw [absS_append]
  have h1 := absS_nonneg a
  have h2 := absS_nonneg b
  have h3 : absS (s :: b) = (s.n.natAbs : Int) + absS b := rfl
  omega
/-- The edges of steps. -/
def edgesL : Nat → List St → List Ed
  | _, [] => []
  | i, s :: S => ⟨s.lo, i, 1⟩ :: ⟨s.hi, i, -1⟩ :: edgesL (i + 1) S
theorem edgesL_length : ∀ (i : Nat) (S : List St), (edgesL i S).length = 2 * S.length
  | _, [] => rfl
  | i, s :: S => by simp only [edgesL, List.length_cons, edgesL_length (i + 1) S]; omega
theorem edgesL_append : ∀ (i : Nat) (S T : List St), edgesL i (S ++ T) = edgesL i S ++ edgesL (i + S.length) T
  | _, [], T => by simp [edgesL]
  | i, s :: S, T => by
    simp only [List.cons_append, edgesL, edgesL_append (i + 1) S T, List.length_cons]
    rw [show i + 1 + S.length = i + (S.length + 1) by omega]
theorem edgesL_mem : ∀ {i : Nat} {S : List St} {e : Ed}, e ∈ edgesL i S → ∃ (j : Nat) (s : St), S[j]? = some s ∧ e.of = ((i + j : Nat) : Int) ∧ ((e.t = s.lo ∧ e.b = 1) ∨ (e.t = s.hi ∧ e.b = -1))
  | _, [], e, h => absurd h (by simp [edgesL])
  | i, s :: S, e, h => by
    simp only [edgesL, List.mem_cons] at h
    rcases h with rfl | rfl | h
    · exact ⟨0, s, rfl, by simp, .inl ⟨rfl, rfl⟩⟩
    · exact ⟨0, s, rfl, by simp, .inr ⟨rfl, rfl⟩⟩
    · obtain ⟨j, u, h1, h2, h3⟩ := edgesL_mem h
      exact ⟨j + 1, u, by simpa using h1, by rw [h2]; omega, h3⟩
/-- What an edge adds. -/
def wE (S : List St) (e : Ed) : Int := e.b * ((S[e.of.toNat]?).map St.n).getD 0
theorem wE_at {S : List St} {e : Ed} {j : Nat} {s : St} (h : S[j]? = some s) (he : e.of = (j : Int)) : wE S e = e.b * s.n := by
  unfold wE
  rw [he, Int.toNat_natCast, h]
  rfl
theorem tot_edges (S0 : List St) (f : Ed → Int) (g : St → Int) : ∀ (P S : List St), S0 = P ++ S → (∀ (j : Nat) s, S0[j]? = some s → f ⟨s.lo, j, 1⟩ + f ⟨s.hi, j, -1⟩ = g s) → tot f (edgesL P.length S) = tot g S
  | _, [], _, _ => rfl
  | P, s :: S, h, hf => by
    have h1 := tot_edges S0 f g (P ++ [s]) S (by rw [h]; simp) hf
    rw [List.length_append, List.length_singleton] at h1
    have h2 := hf P.length s (by rw [h, List.getElem?_append_right (Nat.le_refl _)]; simp)
    simp only [edgesL, tot, h1]
    omega
/-- What is passed up to an edge. -/
def timesT (S : List St) (E : List Ed) (i : Nat) : Int := tot (wE S) (E.take i)
def posT (S : List St) (E : List Ed) (i : Nat) : Int := tot (fun e => max (wE S e) 0) (E.take i)
theorem timesT_succ {S : List St} {E : List Ed} {i : Nat} {e : Ed} (h : E[i]? = some e) : timesT S E (i + 1) = timesT S E i + wE S e := by
  unfold timesT
  rw [take_snoc h, tot_append]
  simp [tot]
theorem posT_succ {S : List St} {E : List Ed} {i : Nat} {e : Ed} (h : E[i]? = some e) : posT S E (i + 1) = posT S E i + max (wE S e) 0 := by
  unfold posT
  rw [take_snoc h, tot_append]
  simp [tot]
/-- Edges in the order of time. -/
structure Edg (S : List St) (E : List Ed) : Prop where
  perm : E.Perm (edgesL 0 S)
  sort : E.Pairwise (fun x y => x.t ≤ y.t)
  right : ∀ s ∈ S, s.lo < s.hi
theorem Edg.length {S : List St} {E : List Ed} (h : Edg S E) : E.length = 2 * S.length := by rw [h.perm.length_eq, edgesL_length]
theorem Edg.of {S : List St} {E : List Ed} (h : Edg S E) {i : Nat} {e : Ed} (he : E[i]? = some e) : ∃ (j : Nat) (s : St), S[j]? = some s ∧ e.of = (j : Int) ∧ (e.b = 1 ∨ e.b = -1) := by
  obtain ⟨j, s, h1, h2, h3⟩ := edgesL_mem (h.perm.mem_iff.1 (List.mem_of_getElem? he))
  exact ⟨j, s, h1, by rw [h2]; simp, by rcases h3 with h3 | h3; exact .inl h3.2; exact .inr h3.2⟩
theorem Edg.mono {S : List St} {E : List Ed} (h : Edg S E) {i j : Nat} {x y : Ed} (hij : i ≤ j) (hx : E[i]? = some x) (hy : E[j]? = some y) : x.t ≤ y.t := by
  by_cases e : i = j
  · subst e; rw [hx] at hy; injection hy with hy; subst hy; exact Int.le_refl _
  · obtain ⟨h1, h2⟩ := List.getElem?_eq_some_iff.1 hx
    obtain ⟨h3, h4⟩ := List.getElem?_eq_some_iff.1 hy
    have := List.pairwise_iff_getElem.1 h.sort i j h1 h3 (by omega)
    rw [h2, h4] at this
    exact this
/-- Between two edges there are as many as have been passed. -/
theorem Edg.val {S : List St} {E : List Ed} (h : Edg S E) {i : Nat} {x y : Ed} (hx : E[i]? = some x) (hy : E[i + 1]? = some y) {t : Int} (h1 : x.t ≤ t) (h2 : t < y.t) : sumS S t = timesT S E (i + 1) := by
  have e1 : tot (fun e => if e.t ≤ t then wE S e else 0) E = sumS S t := by
    rw [tot_perm _ h.perm]
    have := tot_edges S (fun e => if e.t ≤ t then wE S e else 0) (fun s => if s.lo ≤ t ∧ t < s.hi then s.n else 0) [] S rfl (fun j s hs => by
      simp only
      rw [wE_at hs rfl, wE_at hs rfl]
      have h3 := h.right s (List.mem_of_getElem? hs)
      simp only
      by_cases a : s.lo ≤ t
      · by_cases b : s.hi ≤ t
        · rw [if_pos a, if_pos b, if_neg (by omega)]; omega
        · rw [if_pos a, if_neg b, if_pos (by omega)]; omega
      · rw [if_neg a, if_neg (by omega), if_neg (by omega)]; rfl)
    exact this
  have e2 : tot (fun e => if e.t ≤ t then wE S e else 0) E = timesT S E (i + 1) := by
    have e3 : tot (fun e => if e.t ≤ t then wE S e else 0) E = tot (fun e => if e.t ≤ t then wE S e else 0) (E.take (i + 1)) + tot (fun e => if e.t ≤ t then wE S e else 0) (E.drop (i + 1)) := by rw [← tot_append, List.take_append_drop]
    rw [e3]
    have e4 : tot (fun e => if e.t ≤ t then wE S e else 0) (E.take (i + 1)) = timesT S E (i + 1) := tot_congr (fun e he => by
      obtain ⟨k, hk⟩ := List.getElem?_of_mem he
      have hk' := List.getElem?_eq_some_iff.1 hk
      have hlt : k < i + 1 := by have := hk'.1; rw [List.length_take] at this; omega
      rw [List.getElem?_take_of_lt hlt] at hk
      have := h.mono (by omega) hk hx
      rw [if_pos (by omega)])
    have e5 : tot (fun e => if e.t ≤ t then wE S e else 0) (E.drop (i + 1)) = 0 := tot_zero (fun e he => by
      obtain ⟨k, hk⟩ := List.getElem?_of_mem he
      rw [List.getElem?_drop] at hk
      have := h.mono (by omega) hy hk
      rw [if_neg (by omega)])
    omega
  rw [← e1, e2]
theorem Edg.abs {S : List St} {E : List Ed} (h : Edg S E) (i : Nat) : -(2 * absS S) ≤ timesT S E i ∧ timesT S E i ≤ 2 * absS S := by
  have hw : ∀ e, (0 : Int) ≤ ((wE S e).natAbs : Int) := fun e => by omega
  have e1 : tot (fun e => ((wE S e).natAbs : Int)) E = 2 * absS S := by
    rw [tot_perm _ h.perm]
    have := tot_edges S (fun e => ((wE S e).natAbs : Int)) (fun s => (s.n.natAbs : Int) + (s.n.natAbs : Int)) [] S rfl (fun j s hs => by
      rw [wE_at hs rfl, wE_at hs rfl]
      simp only
      omega)
    rw [List.length_nil] at this
    rw [this, tot_add]
    unfold absS
    omega
  have e2 := tot_take_le hw (a := E) i
  have e3 : timesT S E i ≤ tot (fun e => ((wE S e).natAbs : Int)) (E.take i) := tot_le (fun e _ => by omega)
  have e4 : tot (fun e => -((wE S e).natAbs : Int)) (E.take i) ≤ timesT S E i := tot_le (fun e _ => by omega)
  have e5 : tot (fun e => -((wE S e).natAbs : Int)) (E.take i) + tot (fun e => ((wE S e).natAbs : Int)) (E.take i) = 0 := by
    rw [← tot_add]
    exact tot_zero (fun e _ => by omega)
  omega
theorem Edg.pos {S : List St} {E : List Ed} (h : Edg S E) (i : Nat) : posT S E i ≤ absS S := by
  have e1 : tot (fun e => max (wE S e) 0) E = absS S := by
    rw [tot_perm _ h.perm]
    have := tot_edges S (fun e => max (wE S e) 0) (fun s => (s.n.natAbs : Int)) [] S rfl (fun j s hs => by
      rw [wE_at hs rfl, wE_at hs rfl]
      simp only
      omega)
    exact this
  have := tot_take_le (f := fun e => max (wE S e) 0) (a := E) (fun e => by omega) i
  unfold posT
  omega
theorem Edg.ends {S : List St} {E : List Ed} (h : Edg S E) {s : St} (hs : s ∈ S) : (∃ i : Nat, ∃ e, E[i]? = some e ∧ e.t = s.lo) ∧ (∃ i : Nat, ∃ e, E[i]? = some e ∧ e.t = s.hi) := by
  have key : ∀ (k : Nat) (S : List St), s ∈ S → (∃ e ∈ edgesL k S, e.t = s.lo) ∧ (∃ e ∈ edgesL k S, e.t = s.hi) := by
    intro k S
    induction S generalizing k with
    | nil => intro h; cases h
    | cons x S ih =>
      intro hx
      rcases List.mem_cons.1 hx with rfl | hx
      · exact ⟨⟨_, List.mem_cons_self .., rfl⟩, ⟨_, List.mem_cons_of_mem _ (List.mem_cons_self ..), rfl⟩⟩
      · obtain ⟨⟨e, h1, h2⟩, ⟨e', h3, h4⟩⟩ := ih (k + 1) hx
        exact ⟨⟨e, List.mem_cons_of_mem _ (List.mem_cons_of_mem _ h1), h2⟩, ⟨e', List.mem_cons_of_mem _ (List.mem_cons_of_mem _ h3), h4⟩⟩
  obtain ⟨⟨e, h1, h2⟩, ⟨e', h3, h4⟩⟩ := key 0 S hs
  obtain ⟨i, hi⟩ := List.getElem?_of_mem (h.perm.mem_iff.2 h1)
  obtain ⟨j, hj⟩ := List.getElem?_of_mem (h.perm.mem_iff.2 h3)
  exact ⟨⟨i, e, hi, h2⟩, ⟨j, e', hj, h4⟩⟩
/-- How many are opened. -/
def opens : Nat → List Pc → Nat
  | _, [] => 0
  | k, p :: ps => (p.n.toNat - k) + opens p.n.toNat ps
def lastk : Nat → List Pc → Nat
  | k, [] => k
  | _, p :: ps => lastk p.n.toNat ps
theorem lastk_snoc : ∀ (k : Nat) (Q : List Pc) (p : Pc), lastk k (Q ++ [p]) = p.n.toNat
  | _, [], _ => rfl
  | _, q :: Q, p => lastk_snoc _ Q p
theorem opens_snoc : ∀ (k : Nat) (Q : List Pc) (p : Pc), opens k (Q ++ [p]) = opens k Q + (p.n.toNat - lastk k Q)
  | k, [], p => by simp [opens, lastk]
  | k, q :: Q, p => by simp only [List.cons_append, opens, lastk, opens_snoc _ Q p]; omega
theorem stepU_count (p : Pc) (S : List Int) (out : List Iv) : (stepU p (S, out)).1.length = p.n.toNat ∧ (stepU p (S, out)).2.length + (stepU p (S, out)).1.length = out.length + S.length + (p.n.toNat - S.length) := by
  obtain ⟨D, E, e1, e2, e3⟩ := shrink_spec p.n.toNat p.lo S out
  unfold stepU grow_
  rw [e2]
  simp only [List.length_append, List.length_replicate, List.length_map]
  have : S.length = D.length + E.length := by rw [e1, List.length_append]
  omega
theorem runU_count : ∀ (Q : List Pc) (S : List Int) (out : List Iv), (runU Q (S, out)).2.length + (runU Q (S, out)).1.length = out.length + S.length + opens S.length Q
  | [], S, out => by simp [runU, opens]
  | p :: Q, S, out => by
    have h := stepU_count p S out
    have e : runU (p :: Q) (S, out) = runU Q ((stepU p (S, out)).1, (stepU p (S, out)).2) := rfl
    rw [e, runU_count Q, h.2, h.1]
    simp only [opens]
    omega
theorem unfold_count (Q : List Pc) (z : Int) : (unfoldL Q z).length = opens 0 Q := by
  unfold unfoldL
  rw [List.length_append, List.length_map, runU_count]
  simp
/-- Where the sweep is. -/
def cur (E : List Ed) (i : Nat) : Int := ((E[min i (E.length - 1)]?).map Ed.t).getD 0
theorem cur_at {E : List Ed} {i : Nat} {e : Ed} (h : E[i]? = some e) : cur E i = e.t := by
  have := (List.getElem?_eq_some_iff.1 h).1
  unfold cur
  rw [show min i (E.length - 1) = i by omega, h]
  rfl
theorem cur_end {E : List Ed} {i : Nat} (h : i + 1 = E.length) : cur E (i + 1) = cur E i := by
  unfold cur
  rw [show min (i + 1) (E.length - 1) = min i (E.length - 1) by omega]
/-- What holds behind some edges. -/
structure LevI (S : List St) (E : List Ed) (i : Nat) (Q : List Pc) : Prop where
  chn : Chn (cur E 0) Q (cur E i)
  val : ∀ p ∈ Q, ∀ t, p.lo ≤ t → t < p.hi → sumS S t = p.n
  opn : ((opens 0 Q : Nat) : Int) + (((timesT S E i).toNat - lastk 0 Q : Nat) : Int) ≤ posT S E i
theorem LevI.start (S : List St) (E : List Ed) : LevI S E 0 [] := ⟨rfl, by simp, by simp [opens, timesT, posT, tot]⟩
theorem LevI.skip {S : List St} {E : List Ed} {i : Nat} {Q : List Pc} (h : LevI S E i Q) {x : Ed} (hx : E[i]? = some x) (hs : i + 1 = E.length ∨ ∃ y, E[i + 1]? = some y ∧ y.t = x.t) : LevI S E (i + 1) Q := by
  refine ⟨?_, h.val, ?_⟩
  · have : cur E (i + 1) = cur E i := by
      rcases hs with hs | ⟨y, hy, e⟩
      · exact cur_end hs
      · rw [cur_at hx, cur_at hy, e]
    rw [this]; exact h.chn
  · have := h.opn
    rw [timesT_succ hx, posT_succ hx]
    omega
theorem LevI.add {S : List St} {E : List Ed} (hE : Edg S E) {i : Nat} {Q : List Pc} (h : LevI S E i Q) {x y : Ed} (hx : E[i]? = some x) (hy : E[i + 1]? = some y) (hlt : x.t < y.t) : LevI S E (i + 1) (Q ++ [⟨x.t, y.t, timesT S E (i + 1)⟩]) := by
  refine ⟨?_, ?_, ?_⟩
  · refine h.chn.append ?_
    rw [cur_at hx, cur_at hy]
    exact ⟨rfl, hlt, rfl⟩
  · intro p hp t h1 h2
    rcases List.mem_append.1 hp with hp | hp
    · exact h.val p hp t h1 h2
    · rw [List.mem_singleton] at hp
      subst hp
      exact hE.val hx hy h1 h2
  · have := h.opn
    rw [opens_snoc, lastk_snoc, posT_succ hx]
    simp only
    have := timesT_succ (S := S) hx
    omega
theorem LevI.merge {S : List St} {E : List Ed} (hE : Edg S E) {i : Nat} {Q : List Pc} {p : Pc} (h : LevI S E i (Q ++ [p])) {x y : Ed} (hx : E[i]? = some x) (hy : E[i + 1]? = some y) (hlt : x.t < y.t) (hn : p.n = timesT S E (i + 1)) : LevI S E (i + 1) (Q ++ [⟨p.lo, y.t, p.n⟩]) := by
  obtain ⟨c1, c2, c3⟩ := h.chn.last
  rw [cur_at hx] at c3
  refine ⟨?_, ?_, ?_⟩
  · refine c1.append ?_
    rw [cur_at hy]
    exact ⟨rfl, by show p.lo < y.t; omega, rfl⟩
  · intro q hq t h1 h2
    rcases List.mem_append.1 hq with hq | hq
    · exact h.val q (List.mem_append_left _ hq) t h1 h2
    · rw [List.mem_singleton] at hq
      subst hq
      by_cases hlt2 : t < p.hi
      · exact h.val p (List.mem_append_right _ (List.mem_singleton.2 rfl)) t h1 hlt2
      · show sumS S t = p.n
        rw [hn]
        exact hE.val hx hy (by omega) h2
  · have := h.opn
    rw [opens_snoc, lastk_snoc] at this ⊢
    rw [posT_succ hx]
    simp only
    rw [← hn]
    omega
/-- What a sweep comes to. -/
structure Lev (S : List St) (Q : List Pc) : Prop where
  ne : Q ≠ []
  chn : ∃ x z, Chn x Q z ∧ (∀ t, t < x → sumS S t = 0) ∧ (∀ t, z ≤ t → sumS S t = 0)
  val : ∀ p ∈ Q, ∀ t, p.lo ≤ t → t < p.hi → sumS S t = p.n
  opn : ((opens 0 Q : Nat) : Int) ≤ absS S
theorem LevI.done {S : List St} {E : List Ed} (hE : Edg S E) (hS : S ≠ []) {Q : List Pc} (h : LevI S E E.length Q) : Lev S Q := by
  have hl := hE.length
  have hpos : 0 < S.length := List.length_pos_iff.2 hS
  obtain ⟨e0, he0⟩ : ∃ e, E[0]? = some e := ⟨_, List.getElem?_eq_getElem (by omega)⟩
  obtain ⟨e1, he1⟩ : ∃ e, E[E.length - 1]? = some e := ⟨_, List.getElem?_eq_getElem (by omega)⟩
  have hc := h.chn
  have c0 : cur E 0 = e0.t := cur_at he0
  have c1 : cur E E.length = e1.t := by
    have : cur E (E.length - 1 + 1) = cur E (E.length - 1) := cur_end (by omega)
    rw [show E.length - 1 + 1 = E.length by omega] at this
    rw [this]; exact cur_at he1
  rw [c0, c1] at hc
  have hlo : ∀ s ∈ S, e0.t ≤ s.lo ∧ s.hi ≤ e1.t := by
    intro s hs
    obtain ⟨⟨i, e, h1, h2⟩, ⟨j, e', h3, h4⟩⟩ := hE.ends hs
    have a := hE.mono (Nat.zero_le _) he0 h1
    have b := hE.mono (by have := (List.getElem?_eq_some_iff.1 h3).1; omega) h3 he1
    omega
  refine ⟨?_, ⟨e0.t, e1.t, hc, fun t ht => tot_zero (fun s hs => ?_), fun t ht => tot_zero (fun s hs => ?_)⟩, h.val, ?_⟩
  · intro e
    subst e
    have : e0.t = e1.t := hc
    obtain ⟨s, hs⟩ := List.exists_mem_of_ne_nil S hS
    have := hlo s hs
    have := hE.right s hs
    omega
  · have := hlo s hs
    rw [if_neg (by omega)]
  · have := hlo s hs
    rw [if_neg (by omega)]
  · have := h.opn
    have := hE.pos E.length
    omega
end Go.Proofs.YtlapifncplbcnaaGreat
