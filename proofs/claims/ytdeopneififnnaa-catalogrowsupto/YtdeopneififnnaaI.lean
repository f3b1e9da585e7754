/- slices.Sorted(slices.Values(names)). -/
import Derived.Test.YtdeopneififnnaaH
import Derived.Test.YtdeopneififnnaaLay
import Derived.Sort.OwnSorted
namespace Go.Proofs.Ytdeopneififnnaa
open Go.RowKit Go.Shelf Go.Sort Go.Maps

theorem encStr_of (x : ByteArray) : encStr x.data.toList = .string x := rfl
theorem map_encStr (zs : List ByteArray) : (zs.map (fun x => x.data.toList)).map encStr = zs.map Value.string := by
  rw [List.map_map]
  rfl
set_option maxRecDepth 100000 in
set_option maxHeartbeats 4000000 in
theorem sorted_in (F : Fence) (n : Nat) (h56 : F.fn 56) (h61 : F.fn 61) (h62 : F.fn 62) (h65 : F.fn 65) (h63 : F.fn 63) (hro : F.round = none) (hn : 6 ≤ n)
    (hs1 : ∀ (blk off cap : Nat) (ss : List (List UInt8)) (W : World), Holds encStr W blk off ss.toArray → blk < W.heap.size → ss.length < 4611686018427387904 →
      CallsIn F (n - 1) Try.prog 62 #[.slice (some ⟨blk, off, none⟩) ss.length cap] W fun e w' => e = .returned (.tuple #[]) ∧ ∃ k os, w' = grow (putRow encStr (Sort.ahead W k) blk off (ss.mergeSort fun x y => decide (x ≤ y)).toArray) os)
    (hs2 : ∀ (p : Option Addr) (cap : Nat) (W : World), CallsIn F (n - 1) Try.prog 62 #[.slice p 0 cap] W fun e w' => e = .returned (.tuple #[]) ∧ w' = W)
    (Bs : Nat) (sv : Value) (zs : List ByteArray) (hlen : zs.length ≤ 1048576) (w : World) (hBs : Bs < w.heap.size) (hc : w.cell? ⟨Bs, 0, none⟩ = some sv) (hI : StrV w.heap.size w sv zs) :
    CallsIn F n Try.prog 56 #[.func (.func 63) #[] #[.pointer (some ⟨Bs, 0, none⟩)]] w fun e W' => ∃ v, e = .returned v ∧ W'.ownsRow w.heap.size 9 1 v zs.length (((zs.map (fun x => x.data.toList)).mergeSort (fun x y => decide (x ≤ y))).map encStr) ∧ Below w.heap.size w W' := by
  have h1 : 1 ≤ n := by omega
  have h2 : 1 ≤ n - 1 := by omega
  have cC : CallsIn F (n - 1) Try.prog 61 #[.func (.func 63) #[] #[.pointer (some ⟨Bs, 0, none⟩)]] w fun e W' => ∃ v, e = .returned v ∧ W'.ownsRow w.heap.size 9 1 v zs.length (zs.map Value.string) ∧ Below w.heap.size w W' := by
    refine callsIn_of_wp Try.func61 rfl h61 ?_ hro
    simp only [Try.ntmps61, List.size_toArray, List.length_cons, List.length_nil, Nat.reduceAdd, Nat.reduceSub, Array.replicate_succ, Array.replicate_zero, List.push_toArray, List.append_toArray, List.nil_append, List.cons_append]
    gi_wp2_with (gi_at_call 65; refine (appendSeq_in F (n - 1 - 1) h65 h63 hro (by omega) Bs sv zs hlen w hBs hc hI).mono ?_; rintro e W ⟨v, rfl, q1, q2⟩)
    go_ret
    exact ⟨v, rfl, q1, q2⟩
  refine callsIn_of_wp Try.func56 rfl h56 ?_ hro
  simp only [Try.ntmps56, List.size_toArray, List.length_cons, List.length_nil, Nat.reduceAdd, Nat.reduceSub, Array.replicate_succ, Array.replicate_zero, List.push_toArray, List.append_toArray, List.nil_append, List.cons_append]
  gi_wp2_with (gi_at_call 61; refine cC.mono ?_; rintro e W ⟨v, rfl, hrow, hb⟩)
  rcases hrow.2 with ⟨rfl, hz⟩ | ⟨gb, cap, cur, rfl, hbase, hgb, r1, r2, r3, r4⟩
  · have hss : zs = [] := List.eq_nil_of_length_eq_zero hz
    subst hss
    gi_wp2_with (gi_at_call 62; refine (hs2 none 0 W).mono ?_; rintro e w' ⟨rfl, rfl⟩)
    go_ret
    exact ⟨.slice none 0 0, rfl, by simpa using hrow, hb⟩
  · rw [← map_encStr] at r4
    have hH : Holds encStr W gb 0 (zs.map (fun x => x.data.toList)).toArray := holds_of_block hgb (by simpa using r4)
    have hgl : gb < W.heap.size := (Array.getElem?_eq_some_iff.1 hgb).1
    have cS := hs1 gb 0 cap (zs.map (fun x => x.data.toList)) W hH hgl (by rw [List.length_map]; omega)
    rw [List.length_map] at cS
    gi_wp2_with (gi_at_call 62; refine cS.mono ?_; rintro e w' ⟨rfl, nn, os, rfl⟩)
    go_ret
    have hlm : (zs.map (fun x => x.data.toList)).length = zs.length := by rw [List.length_map]
    have hln : ((zs.map (fun x => x.data.toList)).mergeSort (fun x y => decide (x ≤ y))).length = (zs.map (fun x => x.data.toList)).length := by rw [List.length_mergeSort]
    have q := ownsRow_sorted (n := nn) (os := os) (ss := zs.map (fun x => x.data.toList)) (ts := (zs.map (fun x => x.data.toList)).mergeSort (fun x y => decide (x ≤ y))) hln hbase hgb (by rw [hlm]; exact r1) r2 r3
    rw [hlm] at q
    exact ⟨_, rfl, q, hb.grown (grownBy_sorted _) hb.size (fun j hj => by cases hj; exact hbase)⟩
end Go.Proofs.Ytdeopneififnnaa
