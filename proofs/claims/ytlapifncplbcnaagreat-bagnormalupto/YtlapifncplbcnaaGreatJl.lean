/- levels: the steps of all rows of a list, apart. -/
import Derived.Test.YtlapifncplbcnaaGreatJp
namespace Go.Proofs.YtlapifncplbcnaaGreat
open Go.RowKit Go.Sort Go.Shelf
set_option maxRecDepth 100000
set_option linter.unusedVariables false
set_option linter.unusedSimpArgs false

def posL (Q : List St) : List St := Q.filter (fun s => decide (0 < s.n))
theorem posL_take {Q : List St} {k : Nat} {x : St} (h : Q[k]? = some x) : posL (Q.take (k + 1)) = if 0 < x.n then posL (Q.take k) ++ [x] else posL (Q.take k) := by
  unfold posL
  rw [take_snoc h, List.filter_append]
  by_cases e : 0 < x.n
  · rw [if_pos e]; simp [e]
  · rw [if_neg e]; simp [e]
theorem chn_sum {V : Int → Int} : ∀ {x : Int} {Q : List Pc} {z : Int}, Chn x Q z → (∀ p ∈ Q, ∀ t, p.lo ≤ t → t < p.hi → V t = p.n) → ∀ t, tot (fun p : Pc => if p.lo ≤ t ∧ t < p.hi then p.n else 0) Q = if x ≤ t ∧ t < z then V t else 0
  | x, [], z, h, _, t => by
    unfold Chn at h
    subst h
    rw [if_neg (by omega)]; rfl
  | x, p :: ps, z, ⟨h1, h2, h3⟩, hv, t => by
    simp only [tot]
    rw [chn_sum h3 (fun q hq => hv q (List.mem_cons_of_mem _ hq)) t]
    have hz := Chn.le h3
    have hp := hv p (List.mem_cons_self ..) t
    by_cases c1 : p.lo ≤ t ∧ t < p.hi
    · rw [if_pos c1, if_neg (by omega), if_pos (by omega), hp c1.1 c1.2]; omega
    · rw [if_neg c1]
      by_cases c2 : p.hi ≤ t ∧ t < z
      · rw [if_pos c2, if_pos (by omega)]; omega
      · rw [if_neg c2, if_neg (by omega)]; rfl
theorem tot_filter {α : Type} {f : α → Int} {p : α → Bool} {a : List α} (h : ∀ x ∈ a, p x = false → f x = 0) : tot f (a.filter p) = tot f a := by
  induction a with
  | nil => rfl
  | cons x a ih =>
    have ih' := ih (fun y hy => h y (List.mem_cons_of_mem _ hy))
    rw [List.filter_cons]
    cases hp : p x
    · rw [if_neg (by simp), ih']
      simp only [tot]
      rw [h x (List.mem_cons_self ..) hp]; omega
    · rw [if_pos rfl]
      simp only [tot, ih']
theorem tot_nonneg_mem {α : Type} {f : α → Int} {a : List α} (h : ∀ x ∈ a, 0 ≤ f x) : 0 ≤ tot f a := by
  induction a with
  | nil => exact Int.le_refl _
  | cons x a ih => simp only [tot]; have h1 := h x (List.mem_cons_self ..); have h2 := ih (fun y hy => h y (List.mem_cons_of_mem _ hy)); omega
theorem tot_map {α β : Type} (g : α → β) (f : β → Int) (a : List α) : tot f (a.map g) = tot (fun x => f (g x)) a := by
  induction a with
  | nil => rfl
  | cons x a ih => simp only [tot, List.map_cons, ih]
theorem sumS_nonneg {G : List St} (h : ∀ s ∈ G, 0 ≤ s.n) (t : Int) : 0 ≤ sumS G t := tot_nonneg_mem (fun s hs => by have := h s hs; split <;> omega)
theorem sumS_abs (G : List St) (t : Int) : sumS G t ≤ absS G := tot_le (fun s _ => by split <;> omega)
theorem level_sum {G Q : List St} (h : Lev G (Q.map St.pc)) (hp : ∀ s ∈ G, 0 ≤ s.n) (t : Int) : sumS (posL Q) t = sumS G t := by
  obtain ⟨x, z, hc, h0, h1⟩ := h.chn
  have hall := chn_sum hc h.val t
  rw [tot_map] at hall
  have e : sumS Q t = sumS G t := by
    have e1 : sumS Q t = if x ≤ t ∧ t < z then sumS G t else 0 := hall
    rw [e1]
    by_cases c : x ≤ t ∧ t < z
    · rw [if_pos c]
    · rw [if_neg c]
      rcases Int.lt_or_le t x with c1 | c1
      · exact (h0 t c1).symm
      · exact (h1 t (by omega)).symm
  rw [← e]
  refine tot_filter (fun s hs hn => ?_)
  have hn' : ¬ 0 < s.n := by simpa using hn
  by_cases c : s.lo ≤ t ∧ t < s.hi
  · rw [if_pos c]
    have h2 := h.val s.pc (List.mem_map.2 ⟨s, hs, rfl⟩) t c.1 c.2
    have h3 := sumS_nonneg hp t
    have h4 : s.pc.n = s.n := rfl
    omega
  · rw [if_neg c]
theorem chn_lt : ∀ {x : Int} {Q : List Pc} {z : Int}, Chn x Q z → ∀ p ∈ Q, p.lo < p.hi
  | _, [], _, _, p, hp => by cases hp
  | _, q :: qs, _, ⟨_, h2, h3⟩, p, hp => by
    rcases List.mem_cons.1 hp with rfl | hp
    · exact h2
    · exact chn_lt h3 p hp
theorem sumS_pos {G : List St} {t : Int} (h : 0 < sumS G t) : ∃ s ∈ G, s.lo ≤ t ∧ t < s.hi := by
  obtain ⟨s, hs, h2⟩ := tot_pos h
  refine ⟨s, hs, ?_⟩
  by_cases hb : s.lo ≤ t ∧ t < s.hi
  · exact hb
  · rw [if_neg hb] at h2; omega
/-- The pieces that say something are periods. -/
theorem level_right {G Q : List St} (h : Lev G (Q.map St.pc)) (hG : Rts G) : ∀ q ∈ posL Q, 0 < q.n ∧ q.n ≤ absS G ∧ 0 ≤ q.lo ∧ q.lo < q.hi ∧ q.hi ≤ 1099511627776 := by
  intro q hq
  obtain ⟨hq1, hq2⟩ := List.mem_filter.1 hq
  have hn : 0 < q.n := by simpa using hq2
  obtain ⟨x, z, hc, _, _⟩ := h.chn
  have hm : q.pc ∈ Q.map St.pc := List.mem_map.2 ⟨q, hq1, rfl⟩
  have hlt : q.lo < q.hi := chn_lt hc q.pc hm
  have hv := h.val q.pc hm
  have e1 : sumS G q.lo = q.n := hv q.lo (Int.le_refl _) hlt
  have e2 : sumS G (q.hi - 1) = q.n := hv (q.hi - 1) (by show q.lo ≤ _; omega) (by show _ < q.hi; omega)
  obtain ⟨s1, a1, a2, a3⟩ := sumS_pos (G := G) (t := q.lo) (by omega)
  obtain ⟨s2, b1, b2, b3⟩ := sumS_pos (G := G) (t := q.hi - 1) (by omega)
  have k1 := hG s1 a1
  have k2 := hG s2 b1
  have := sumS_abs G q.lo
  omega
/-- What stands while levels are made. -/
structure VS (B bo : Nat) (A : List St) (W : World) (v : Value) (F : List St) : Prop where
  b : Bx1 W bo v
  o : Own elS W v F
  cnt : ∀ r t, sumR F r t = sumR A r t
  mem : ∀ f ∈ F, (0 < f.n ∧ f.n ≤ absS A ∧ 0 ≤ f.lo ∧ f.lo < f.hi ∧ f.hi ≤ 1099511627776) ∧ ∃ s ∈ A, f.p = s.p ∧ f.c = s.c ∧ f.row = s.row
  len : F.length ≤ 2 * A.length
  n : ∀ k, v.ownBlock = some k → B ≤ k
theorem VS.fr {B bo : Nat} {A : List St} {W W' : World} {v : Value} {F : List St} (h : VS B bo A W v F) (hf : Fr W W' (fun _ => False)) : VS B bo A W' v F :=
  ⟨h.b.fr hf (fun h => h), h.o.fr hf (fun _ _ h => h), h.cnt, h.mem, h.len, h.n⟩
theorem ls_cnt {A G F Q : List St} {r0 : List Val} (h : ∀ r t, sumR F r t = sumR A r t) (hG : ∀ s ∈ G, s.row = r0) (hQ : ∀ q ∈ Q, q.row = r0) (hl : Lev G (Q.map St.pc)) (hp : ∀ s ∈ G, 0 ≤ s.n) : ∀ r t, sumR (F ++ posL Q) r t = sumR (A ++ G) r t := by
  intro r t
  rw [sumR_append, sumR_append, h r t]
  congr 1
  have hQ' : ∀ s ∈ posL Q, s.row = r0 := fun s hs => hQ s (List.mem_filter.1 hs).1
  by_cases e : r0 = r
  · subst e
    rw [sumR_all hQ', sumR_all hG, level_sum hl hp]
  · rw [sumR_none (fun s hs e' => e (by rw [← hQ' s hs, e'])), sumR_none (fun s hs e' => e (by rw [← hG s hs, e']))]
end Go.Proofs.YtlapifncplbcnaaGreat
