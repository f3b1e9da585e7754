/- What a crash keeps of a log. -/
import Derived.Test.YtachppnakmdjhaaLi
namespace Go.Proofs.Ytachppnakmdjhaa
open Go.RowKit
set_option linter.unusedVariables false

/-- Sectors that hold a text up to a place. -/
def Holds (T : List (List UInt8)) (X : List UInt8) (d : Nat) : Prop := ∀ k i, i < 256 → k * 256 + i < d → (T.getD k [])[i]? = X[k * 256 + i]?
theorem cellL_get (X : List UInt8) (k i : Nat) (hi : i < 256) (h : k * 256 + i < X.length) : (cellL X k)[i]? = X[k * 256 + i]? := by
  unfold cellL
  rw [List.getElem?_map, List.getElem?_range hi, Option.map_some, List.getD_eq_getElem?_getD, List.getElem?_eq_getElem h]
  rfl
theorem layS_getD (T : List (List UInt8)) (n : Nat) (l : List UInt8) (c k : Nat) (hn : n < T.length) : (layS T n l c).getD k [] = if k = n then l.take c ++ (T.getD n []).drop c else T.getD k [] := by
  unfold layS
  rw [List.getD_eq_getElem?_getD, List.getElem?_set]
  by_cases h : k = n
  · subst h
    rw [if_pos rfl, if_pos hn, if_pos rfl]
    rfl
  · rw [if_neg (fun h1 => h h1.symm), if_neg h, List.getD_eq_getElem?_getD]
theorem Holds.lay {T : List (List UInt8)} {X : List UInt8} {d : Nat} (h : Holds T X d) (n : Nat) (hn : n < T.length) (l : List UInt8) (hl : l.length = 256) (hc : ∀ i, i < 256 → n * 256 + i < d → l[i]? = X[n * 256 + i]?) (c : Nat) (hc256 : c ≤ 256) : Holds (layS T n l c) X d := by
  intro k i hi hd
  rw [layS_getD T n l c k hn]
  by_cases hk : k = n
  · subst hk
    rw [if_pos rfl]
    have htl : (l.take c).length = c := by rw [List.length_take]; omega
    rcases Nat.lt_or_ge i c with h1 | h1
    · rw [List.getElem?_append_left (by omega), List.getElem?_take, if_pos h1]
      exact hc i hi hd
    · rw [List.getElem?_append_right (by omega), htl, List.getElem?_drop, show c + (i - c) = i by omega]
      exact h k i hi hd
  · rw [if_neg hk]
    exact h k i hi hd
theorem Holds.lays {T : List (List UInt8)} {X : List UInt8} {d : Nat} (h : Holds T X d) (L : List (Nat × List UInt8)) (hL : ∀ p ∈ L, p.2 = cellL X p.1 ∧ p.1 < T.length) (hd : d ≤ X.length) (cnt : Nat → Option Nat) (hc : ∀ i c, cnt i = some c → c ≤ 256) : ∀ k, Holds (laysTo T L cnt k) X d
  | 0 => h
  | k + 1 => by
    have ih := Holds.lays h L hL hd cnt hc k
    unfold laysTo
    split
    · rename_i p hp
      obtain ⟨h1, h2⟩ := hL p (List.mem_of_getElem? hp)
      split
      · rename_i c hcc
        exact ih.lay p.1 (by rw [laysTo_length]; exact h2) p.2 (by rw [h1, cellL_length]) (fun i hi hid => by rw [h1]; exact cellL_get X p.1 i hi (by omega)) c (hc k c hcc)
      · exact ih
    · exact ih
theorem Holds.cells {T : List (List UInt8)} {X : List UInt8} {d n : Nat} (h : ∀ k, k < n → T.getD (0 + k) [] = cellL (X.take d) k) (hd : d ≤ X.length) (hn : d ≤ n * 256) : Holds T X d := by
  intro k i hi hid
  have := h k (by omega)
  rw [Nat.zero_add] at this
  rw [this, cellL_get _ _ _ hi (by rw [List.length_take]; omega), List.getElem?_take, if_pos hid]
theorem Holds.bytes {T : List (List UInt8)} {X : List UInt8} {d n : Nat} (h : Holds T X d) (hl : ∀ s ∈ T, s.length = 256) (hn : n ≤ T.length) (hd : d ≤ n * 256) : (bytesOf T [] 0 n).take d = X.take d := by
  obtain ⟨h1, h2⟩ := bytesOf_chunk T [] 0 n (fun k hk => by
    rw [latest_none, Nat.zero_add, List.getD_eq_getElem?_getD, List.getElem?_eq_getElem (by omega)]
    exact hl _ (List.getElem_mem _))
  refine List.ext_getElem? fun j => ?_
  rcases Nat.lt_or_ge j d with hj | hj
  · rw [List.getElem?_take, List.getElem?_take, if_pos hj, if_pos hj]
    have h3 := h2 (j / 256) (by omega)
    have h4 := h (j / 256) (j % 256) (Nat.mod_lt _ (by omega)) (by omega)
    rw [show j / 256 * 256 + j % 256 = j by omega] at h4
    rw [latest_none, Nat.zero_add] at h3
    rw [← h3] at h4
    unfold chunk at h4
    rw [List.getElem?_take, if_pos (Nat.mod_lt _ (by omega)), List.getElem?_drop, show j / 256 * 256 + j % 256 = j by omega] at h4
    exact h4
  · rw [List.getElem?_take, List.getElem?_take, if_neg (by omega), if_neg (by omega)]
theorem Took.least {B : List UInt8} {R R0 : List (Nat × List UInt8)} {e s e0 s0 : Nat} (h : Took B R e s) (hn : recAt B e s = none) (h0 : Took B R0 e0 s0) : R0.length ≤ R.length := by
  rcases Nat.lt_or_ge R.length R0.length with hl | hl
  · obtain ⟨e', s', x, h1, h2⟩ := h0.part R.length hl
    obtain ⟨_, h4, h5⟩ := Took.same R.length rfl (by rw [List.length_take]; omega) h h1
    rw [h4, h5, h2] at hn
    cases hn
  · exact hl
/-- After a crash the log begins as it was made durable. -/
theorem crash_least {S : List (List UInt8)} {L : List (Nat × List UInt8)} {cnt : Nat → Option Nat} {X : List UInt8} {d n : Nat} {R0 R : List (Nat × List UInt8)} {s0 e s : Nat} (hl : ∀ x ∈ S, x.length = 256) (hS : S.length = n) (hc : ∀ i c, cnt i = some c → c ≤ 256)
    (hcell : ∀ k, k < n → S.getD (0 + k) [] = cellL (X.take d) k) (hd : d ≤ X.length) (hdn : d ≤ n * 256) (hL : ∀ p ∈ L, p.2 = cellL X p.1 ∧ p.1 < n) (ch : Chain R0 (X.take d) s0)
    (h : Took (bytesOf (laysTo S L cnt L.length) [] 0 n) R e s) (hn : recAt (bytesOf (laysTo S L cnt L.length) [] 0 n) e s = none) : R0.length ≤ R.length := by
  have hh := (Holds.cells hcell hd hdn).lays L (fun p hp => ⟨(hL p hp).1, by rw [hS]; exact (hL p hp).2⟩) hd cnt hc L.length
  have hb := hh.bytes (laysTo_lens S L cnt hc hl (fun p hp => ⟨by rw [(hL p hp).1, cellL_length], by rw [hS]; exact (hL p hp).2⟩) L.length) (by rw [laysTo_length, hS]; exact Nat.le_refl _) hdn
  have ht := ch.took ((bytesOf (laysTo S L cnt L.length) [] 0 n).drop d)
  rw [← hb, List.take_append_drop] at ht
  exact h.least hn ht
theorem crashN_le (kb : List Bool) (t0 t1 : Int) : ∀ i c, crashN kb t0 (min (max t1 0) 256).toNat i = some c → c ≤ 256 := by
  intro i c h
  unfold crashN at h
  split at h
  · cases h; omega
  · split at h
    · cases h; omega
    · cases h
end Go.Proofs.Ytachppnakmdjhaa
