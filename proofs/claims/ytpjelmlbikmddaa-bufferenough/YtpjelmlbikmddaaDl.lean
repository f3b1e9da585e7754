/- lay: the first bytes of a write are brought to its sector. -/
import Derived.Test.YtpjelmlbikmddaaDh
namespace Go.Proofs.Ytpjelmlbikmddaa
open Go.RowKit
set_option maxRecDepth 100000

def layS (S : List (List UInt8)) (n : Nat) (l : List UInt8) (c : Nat) : List (List UInt8) := S.set n (l.take c ++ (S.getD n []).drop c)

theorem layS_length (S : List (List UInt8)) (n : Nat) (l : List UInt8) (c : Nat) : (layS S n l c).length = S.length := by simp [layS]

theorem layS_lens (S : List (List UInt8)) (hl : ∀ s ∈ S, s.length = 256) (n : Nat) (hn : n < S.length) (l : List UInt8) (h : l.length = 256) (c : Nat) (hc : c ≤ 256) : ∀ s ∈ layS S n l c, s.length = 256 := by
  intro s hs
  rcases List.mem_or_eq_of_mem_set hs with h2 | h2
  · exact hl s h2
  · have e : (S.getD n []).length = 256 := by
      have e : S.getD n [] = S[n] := by simp [hn]
      rw [e]; exact hl _ (List.getElem_mem hn)
    rw [h2, List.length_append, List.length_take, List.length_drop, e, h]
    omega

set_option maxRecDepth 100000 in
theorem layS_flat (C : List Value) (S : List (List UInt8)) (hl : ∀ s ∈ S, s.length = 256) (n : Nat) (hn : n < S.length) (l : List UInt8) (h : l.length = 256) (c : Nat) (hc : c ≤ 256)
    (ht : C.take (S.length * 256) = enc S.flatten) (hC : S.length * 256 ≤ C.length) :
    (C.take (n * 256) ++ (enc (l.take c) ++ C.drop (n * 256 + (enc (l.take c)).length))).take (S.length * 256) = enc (layS S n l c).flatten := by
  have hlc : (enc (l.take c)).length = c := by rw [length_enc, List.length_take, h]; omega
  have hfl : ∀ (T : List (List UInt8)), (∀ s ∈ T, s.length = 256) → T.flatten.length = T.length * 256 := by
    intro T
    induction T with
    | nil => simp
    | cons q T ih =>
      intro hT
      rw [List.flatten_cons, List.length_append, ih (fun s hs => hT s (List.mem_cons_of_mem _ hs)), hT q List.mem_cons_self, List.length_cons]
      omega
  have hbound : n * 256 + 256 ≤ S.length * 256 := by omega
  apply List.ext_getElem?
  intro t
  have lens' := layS_lens S hl n hn l h c hc
  by_cases htl : t < S.length * 256
  · rw [List.getElem?_take, if_pos htl, hlc]
    obtain ⟨q, r, hr, rfl⟩ : ∃ q r, r < 256 ∧ t = q * 256 + r := ⟨t / 256, t % 256, Nat.mod_lt _ (by omega), by omega⟩
    have hq : q < S.length := by
      rcases Nat.lt_or_ge q S.length with h2 | h2
      · exact h2
      · omega
    have hCt : C[q * 256 + r]? = ((S.getD q [])[r]?).map byt := by
      have h2 : (C.take (S.length * 256))[q * 256 + r]? = C[q * 256 + r]? := by rw [List.getElem?_take, if_pos htl]
      rw [← h2, ht, enc_get, flatten_get S hl q hq r hr]
    rw [enc_get, flatten_get _ lens' q (by rw [layS_length]; exact hq) r hr]
    by_cases hqn : q = n
    · subst hqn
      have e : (layS S q l c).getD q [] = l.take c ++ (S.getD q []).drop c := by
        simp [layS, List.getD_eq_getElem?_getD, hq]
      rw [e, List.getElem?_append_right (by rw [List.length_take]; omega), List.length_take]
      rw [show min (q * 256) C.length = q * 256 from by omega, show q * 256 + r - q * 256 = r from by omega]
      by_cases hrc : r < c
      · rw [List.getElem?_append_left (by omega), List.getElem?_append_left (by rw [List.length_take]; omega), enc_get]
      · rw [List.getElem?_append_right (by omega), hlc, List.getElem?_drop, List.getElem?_append_right (by rw [List.length_take]; omega), List.length_take, List.getElem?_drop]
        rw [show q * 256 + c + (r - c) = q * 256 + r from by omega, hCt, h, show min c 256 = c from by omega, show c + (r - c) = r from by omega]
    · have e : (layS S n l c).getD q [] = S.getD q [] := by
        simp [layS, List.getD_eq_getElem?_getD, Ne.symm hqn]
      rw [e, ← hCt]
      by_cases hlt : q < n
      · rw [List.getElem?_append_left (by rw [List.length_take]; omega), List.getElem?_take, if_pos (by omega)]
      · rw [List.getElem?_append_right (by rw [List.length_take]; omega), List.length_take, List.getElem?_append_right (by omega), hlc, List.getElem?_drop]
        congr 1
        omega
  · rw [List.getElem?_take, if_neg htl, enc_get, List.getElem?_eq_none (by rw [hfl _ lens', layS_length]; omega)]
    rfl

end Go.Proofs.Ytpjelmlbikmddaa
