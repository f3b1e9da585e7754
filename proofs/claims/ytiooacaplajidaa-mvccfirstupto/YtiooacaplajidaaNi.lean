/- MvccFirst: what is done is no longer active. -/
import Derived.Test.YtiooacaplajidaaNh
namespace Go.Proofs.Ytiooacaplajidaa
open Go.RowKit
set_option linter.unusedVariables false
set_option linter.unusedSimpArgs false

structure DI (s : St) (dn : List Dd) : Prop where
  d : ∀ d ∈ dn, s.act d.id = none ∧ d.id ≤ s.begun
section
variable {s : St} {dn : List Dd}
theorem DI.begin (h : DI s dn) (kb pb : Nat) : DI (begS s (s.begun + 1) kb pb) dn := ⟨fun d hd => by
  obtain ⟨h1, h2⟩ := h.d d hd
  refine ⟨?_, by show d.id ≤ s.begun + 1; omega⟩
  show (if d.id = s.begun + 1 then _ else s.act d.id) = none
  rw [if_neg (by omega)]
  exact h1⟩
theorem DI.tick (h : DI s dn) (n : Int) : DI { s with now := n } dn := ⟨h.d⟩
theorem DI.ne (h : DI s dn) {t : Int} {x : Tx} (hx : s.act t = some x) : ∀ d ∈ dn, d.id ≠ t := fun d hd he => by
  have := (h.d d hd).1
  rw [he, hx] at this
  cases this
theorem DI.write (h : DI s dn) {t : Int} {x : Tx} (hx : s.act t = some x) (y : Tx) : DI (setT s t (some y)) dn := ⟨fun d hd => by
  refine ⟨?_, (h.d d hd).2⟩
  show (if d.id = t then _ else s.act d.id) = none
  rw [if_neg (h.ne hx d hd)]
  exact (h.d d hd).1⟩
theorem DI.ended {s' : St} {t : Int} (h : DI s dn) (hE : Ended s t s') : DI s' dn := ⟨fun d hd => by
  refine ⟨?_, by rw [hE.begun]; exact (h.d d hd).2⟩
  rw [hE.act]
  show (if d.id = t then none else s.act d.id) = none
  split
  · rfl
  · exact (h.d d hd).1⟩
theorem DI.keep {s' : St} {t v : Int} {x : Tx} {dv : Value} (h : DI s dn) (K : List ByteArray) (hb : t ≤ s.begun) (hE : Ended (keepS (lastS s v) t x v dv) t s') : DI s' (dn ++ [⟨t, K, v⟩]) := ⟨fun d hd => by
  have hact : s'.act d.id = if d.id = t then none else s.act d.id := by rw [hE.act]; rfl
  have hbg : s'.begun = s.begun := hE.begun
  rw [hact, hbg]
  rcases List.mem_append.1 hd with hd | hd
  · refine ⟨?_, (h.d d hd).2⟩
    split
    · rfl
    · exact (h.d d hd).1
  · rw [List.mem_singleton] at hd
    subst hd
    exact ⟨if_pos rfl, hb⟩⟩
end
end Go.Proofs.Ytiooacaplajidaa
