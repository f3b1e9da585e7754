/- Does a name stand there twice? -/
import Derived.Test.YtdeopneififnnaaI
namespace Go.Proofs.Ytdeopneififnnaa
open Go.RowKit Go.Shelf Go.Sort Go.Maps
set_option linter.unusedVariables false

/-- The names' bytes, sorted. -/
def srt (zs : List ByteArray) : List (List UInt8) := (zs.map (fun x => x.data.toList)).mergeSort (fun x y => decide (x ≤ y))
theorem srt_length (zs : List ByteArray) : (srt zs).length = zs.length := by unfold srt; rw [List.length_mergeSort, List.length_map]
set_option maxRecDepth 100000 in
set_option maxHeartbeats 1000000 in
theorem values_in (a : Option Addr) (n c m : Nat) (hm : 1 ≤ m) (w : World) : CallsIn Fence.wide m Try.prog 57 #[.slice a n c] w fun e w' => e = .returned (.func (.func 63) #[] #[.pointer (some ⟨w.heap.size, 0, none⟩)]) ∧ w' = w.alloc (.cells #[.slice a n c] 28) := by
  refine callsIn_of_wp Try.func57 rfl trivial ?_ rfl
  simp only [Try.ntmps57, List.size_toArray, List.length_cons, List.length_nil, Nat.reduceAdd, Nat.reduceSub, Array.replicate_succ, Array.replicate_zero, List.push_toArray, List.append_toArray, List.nil_append, List.cons_append]
  gi_wp2
  go_ret
  exact ⟨rfl, rfl⟩
set_option maxRecDepth 100000 in
set_option maxHeartbeats 4000000 in
theorem twice_any {w : World} (a : Option Addr) (n c : Nat) (zs : List ByteArray) (hn : zs.length = n) (hlen : n ≤ 1048576) (hI : StrV w.heap.size w (.slice a n c) zs) : Calls Try.prog 39 #[.slice a n c] w fun e w' => e = .returned (.bool (decide ((Lib.compact (srt zs)).length < n))) ∧ Below w.heap.size w w' := by
  refine (callsIn_wide (n := 8)).1 ?_
  have hB0 : Below w.heap.size w (w.alloc (.cells #[.slice a n c] 28)) := (Below.refl _ w).alloc (Nat.le_refl _) _
  have cV := values_in a n c 7 (by omega) w
  have cS := sorted_in Fence.wide 7 trivial trivial trivial trivial trivial rfl (by omega)
    (fun blk off cap ss W hH hblk hsz => callsIn_wide.2 (AnyM.slices_Sort_string Try.sortS blk off cap ss W hH hblk hsz))
    (fun p cap W => callsIn_wide.2 (AnyM.slices_Sort_string_none Try.sortS p cap W))
    w.heap.size (.slice a n c) zs (by omega) (w.alloc (.cells #[.slice a n c] 28)) (by simp) ((cell_of_row _ _ _ _ _ _ (heap_alloc_new w (.cells #[.slice a n c] 28))).trans rfl) (by
      rcases hI.below hB0 with h | ⟨b, off, cap, h1, h2, h3⟩
      · exact .inl h
      · exact .inr ⟨b, off, cap, h1, by simp; omega, h3⟩)
  have h57 : Fence.wide.fn 57 := trivial
  have h56 : Fence.wide.fn 56 := trivial
  have h58 : Fence.wide.fn 58 := trivial
  refine callsIn_of_wp Try.func39 rfl trivial ?_ rfl
  simp only [Try.ntmps39, List.size_toArray, List.length_cons, List.length_nil, Nat.reduceAdd, Nat.reduceSub, Array.replicate_succ, Array.replicate_zero, List.push_toArray, List.append_toArray, List.nil_append, List.cons_append]
  gi_wp2_with (first
    | (gi_at_call 57; refine cV.mono ?_; rintro e w' ⟨rfl, rfl⟩)
    | (gi_at_call 56; refine cS.mono ?_; rintro e W ⟨v, rfl, hrow, hb⟩))
  rcases hrow.2 with ⟨rfl, hz⟩ | ⟨gb, cap, cur, rfl, hbase, hgb, r1, r2, r3, r4⟩
  · have hss : zs = [] := List.eq_nil_of_length_eq_zero hz
    subst hss
    have hn0 : n = 0 := by rw [← hn]; rfl
    have cE : CallsIn Fence.wide 7 Try.prog 58 #[.slice none 0 0] W fun e w' => e = .returned (.slice none 0 0) ∧ w' = W := callsIn_wide.2 (AnyG.slices_Compact_string_empty Try.compactS none 0 W)
    subst hn0
    gi_wp2_with (gi_at_call 58; refine cE.mono ?_; rintro e w' ⟨rfl, rfl⟩)
    go_ret
    exact ⟨rfl, (hB0.trans (hb.mono (by simp)))⟩
  · have hH : Holds encStr W gb 0 (srt zs).toArray := holds_of_block hgb (by rw [srt_length]; rw [Nat.mul_one] at r4; exact r4)
    have cE : CallsIn Fence.wide 7 Try.prog 58 #[.slice (some ⟨gb, 0, none⟩) (srt zs).length cap] W fun e w' => e = .returned (.slice (some ⟨gb, 0, none⟩) (Lib.compact (srt zs)).length cap) ∧ ∃ q, w' = putRow encStr (Sort.ahead W q) gb 0 (Lib.compact (srt zs) ++ List.replicate ((srt zs).length - (Lib.compact (srt zs)).length) []).toArray := callsIn_wide.2 (AnyG.slices_Compact_string Try.compactS gb 0 cap (srt zs) W hH (by rw [srt_length]; omega) (by rw [srt_length]; exact r1))
    rw [srt_length] at cE
    gi_wp2_with (gi_at_call 58; refine cE.mono ?_; rintro e w' ⟨rfl, qq, rfl⟩)
    go_ret
    refine ⟨rfl, hB0.trans (Below.trans (hb.mono (by simp)) ?_)⟩
    have hg := grownBy_sorted (w := W) (g := gb) (n := qq) (os := #[]) (Lib.compact (srt zs) ++ List.replicate (n - (Lib.compact (srt zs)).length) []).toArray
    rw [grow_empty] at hg
    exact (Below.refl w.heap.size W).grown hg (by have := hb.size; simp at this; omega) (fun j hj => by cases hj; simp at hbase; omega)
end Go.Proofs.Ytdeopneififnnaa
