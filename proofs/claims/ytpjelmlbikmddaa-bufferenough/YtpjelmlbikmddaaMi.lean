/- Bytes of one's own, one by one. -/
import Derived.Test.YtpjelmlbikmddaaLi
namespace Go.Proofs.Ytpjelmlbikmddaa
open Go.RowKit
set_option maxRecDepth 100000
set_option linter.unusedVariables false

theorem OwnB.place {w : World} {v : Value} {l : List UInt8} (h : OwnB w v l) (h0 : l ≠ []) : ∃ g c, v = .slice (some ⟨g, 0, none⟩) l.length c := by
  rcases h.2 with ⟨h1, h2⟩ | ⟨g, cap, cur, hv, _⟩
  · exact absurd (List.eq_nil_of_length_eq_zero h2) h0
  · exact ⟨g, cap, hv⟩
theorem own_built (w : World) : OwnB (w.alloc (.cells #[] 5)) (.slice (some ⟨w.heap.size, 0, none⟩) 0 0) [] :=
  World.ownsRow_made w _ 0 (Nat.zero_le _) (by unfold maxLen; omega) (by simp)
theorem BI.cell {w : World} {g n : Nat} {l : List UInt8} (h : BI w (some ⟨g, 0, none⟩) n l) (j : Nat) (u : UInt8) (hu : l[j]? = some u) : w.cell? ⟨g, j, none⟩ = some (.int .u8 u.toNat) := by
  have hj := (List.getElem?_eq_some_iff.1 hu).1
  obtain ⟨g', off, he, hc⟩ := h.2.resolve_left (by have := h.1; omega)
  simp only [Option.some.injEq, Addr.mk.injEq, and_true] at he
  obtain ⟨rfl, rfl⟩ := he
  have := hc j u hu
  rwa [Nat.zero_add] at this
theorem run_mine (g n c : Nat) (h : n + 1 ≤ c) (m : Nat) (hm : m ≤ n + 1) : ∀ W, (Instr.slice 45 (.slice (some ⟨g, 0, none⟩) (n + 1) c) none (some (.int .i64 (m : Int))) none).run Try.prog W = .ok (.slice (some ⟨g, 0, none⟩) m c) W := by
  intro W
  rw [run_slice_h (P := Try.prog) W 45 _ (n + 1) c ht22 .i64 (m : Int) (by omega) (by omega), size_elem22]
  simp only [Result.andThen_ok, sliced, Int.toNat_natCast, Nat.sub_zero]
  rw [if_neg (by omega)]
  rfl
theorem run_mine1 (g n c : Nat) (h : n + 1 ≤ c) : ∀ W, (Instr.slice 45 (.slice (some ⟨g, 0, none⟩) n c) none (some (.int .i64 ((n : Int) + 1))) none).run Try.prog W = .ok (.slice (some ⟨g, 0, none⟩) (n + 1) c) W := by
  intro W
  rw [run_slice_h (P := Try.prog) W 45 _ n c ht22 .i64 ((n : Int) + 1) (by omega) (by omega), size_elem22]
  simp only [Result.andThen_ok, sliced, Nat.sub_zero]
  rw [if_neg (by omega)]
  rfl

theorem OwnB.cellAt {w : World} {g n c : Nat} {l : List UInt8} (h : OwnB w (.slice (some ⟨g, 0, none⟩) n c) l) (j : Nat) (u : UInt8) (hu : l[j]? = some u) : w.cell? ⟨g, j, none⟩ = some (.int .u8 u.toNat) := h.bi.cell j u hu
theorem OwnB.thawed {w : World} {g n c : Nat} {l : List UInt8} (h : OwnB w (.slice (some ⟨g, 0, none⟩) n c) l) (j : Nat) : w.frozen? ⟨g, j, none⟩ = false := by
  rcases h.2 with ⟨h1, _⟩ | ⟨g', cap, cur, hv, _, hg, _⟩
  · cases h1
  · simp only [Value.slice.injEq, Option.some.injEq, Addr.mk.injEq, and_true] at hv
    obtain ⟨rfl, _⟩ := hv
    simp [World.frozen?, hg]
theorem OwnB.put {w : World} {g n c : Nat} {l : List UInt8} (h : OwnB w (.slice (some ⟨g, 0, none⟩) n c) l) (j : Nat) (z : Int) (x : UInt8) (hz : z = x.toNat) : OwnB (w.setCell ⟨g, j, none⟩ (.int .u8 z)) (.slice (some ⟨g, 0, none⟩) n c) (l.set j x) := by
  subst hz
  have hlen := h.len
  unfold OwnB at *
  rw [List.length_set]
  refine ⟨by rw [length_enc, List.length_set, Nat.mul_one], ?_⟩
  rcases h.2 with ⟨h1, _⟩ | ⟨g', cap, cur, hv, h0, hg, h2, h3, h4, h5⟩
  · cases h1
  · refine .inr ⟨g', cap, cur.setIfInBounds j (.int .u8 x.toNat), hv, h0, ?_, h2, h3, by simpa using h4, ?_⟩
    · simp only [Value.slice.injEq, Option.some.injEq, Addr.mk.injEq, and_true] at hv
      obtain ⟨rfl, _⟩ := hv
      exact heap_setCell_here _ _ _ _ _ _ _ hg
    · rw [Array.toList_setIfInBounds, List.take_set, h5]
      simp [enc, byt, List.map_set]
theorem u8_add (u : UInt8) : (u.toNat : Int) + 1 = 256 ∨ (u.toNat : Int) + 1 = ((u + 1).toNat : Int) := by
  rw [UInt8.toNat_add]
  have := u.toNat_lt
  have h1 : (1 : UInt8).toNat = 1 := rfl
  rw [h1]
  omega

end Go.Proofs.Ytpjelmlbikmddaa
