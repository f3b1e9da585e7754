/- Read: the bytes of a sector, in new memory. -/
import Derived.Test.YtpjelmlbikmddaaDg
namespace Go.Proofs.Ytpjelmlbikmddaa
open Go.RowKit
set_option maxRecDepth 100000

theorem seek_length (L : List (Nat × List UInt8)) (hl : ∀ p ∈ L, p.2.length = 256) (n : Nat) : ∀ k x, seek L n k = some x → x.length = 256 := by
  intro k
  induction k with
  | zero => intro x hx; simp [seek] at hx
  | succ k ih =>
    intro x hx
    unfold seek at hx
    split at hx
    · rename_i p hp
      split at hx
      · injection hx with hx; subst hx; exact hl p (List.mem_of_getElem? hp)
      · exact ih x hx
    · exact ih x hx

theorem DiskIs.latest_length {w : World} {b gs cs : Nat} {Cs : Array Value} {pv : Value} {S : List (List UInt8)} {L : List (Nat × List UInt8)} (h : DiskIs w b gs cs Cs pv S L) (n : Nat) (hn : n < S.length) :
    (latestOf S L n).length = 256 := by
  unfold latestOf
  cases e : seek L n L.length with
  | none => exact h.sector_length n hn
  | some x => exact seek_length L (fun p hp => (h.lenw p hp).1) n _ x e

theorem read_block {w W1 : World} {o o' : Obj} (h : W1 = (w.alloc o).alloc o') : W1.heap[w.heap.size + 1]? = some o' := by
  subst h; exact heap_alloc2_new w o o'

theorem Fr.setRow (w : World) (g : Nat) (cs : Array Value) : Fr w (w.setRow g cs) (fun k => k = g) :=
  ⟨rfl, rfl, rfl, by simp, fun k _ hx => setRow_other w g k cs hx⟩

set_option maxHeartbeats 400000 in
theorem read_no (b : Nat) (a : Option Addr) (m c : Nat) (n : Int) (w : World) (hc : w.cell? ⟨b, 0, none⟩ = some (.slice a m c)) (h : ¬ (0 ≤ n ∧ n < (m : Int))) :
    Calls Try.prog 21 #[.pointer (some ⟨b, 0, none⟩), .int .i64 n] w fun e w' => e = .returned (.tuple #[.slice none 0 0, .int .i64 1]) ∧ w' = w := by
  have H : Hid (¬ (0 ≤ n ∧ n < (m : Int))) := h
  clear h
  go_enter Try.func21, Try.ntmps21
  go_wp2_with (go_at_call 39; refine (has_no _ _ _ _ _ _ hc H.out).mono ?_; rintro e w' ⟨rfl, rfl⟩)
  go_ret2
  exact ⟨rfl, rfl⟩

set_option maxRecDepth 100000 in
set_option maxHeartbeats 1000000 in
theorem read_any {w : World} {b gs cs : Nat} {Cs : Array Value} {pv : Value} {S : List (List UInt8)} {L : List (Nat × List UInt8)} (h : DiskIs w b gs cs Cs pv S L)
    (v : Int) (n : Nat) (hv : v = n) (hn : n < S.length) (hb : L.length ≤ 268435456) :
    Calls Try.prog 21 #[.pointer (some ⟨b, 0, none⟩), .int .i64 v] w fun e w' => e = .returned (.tuple #[.slice (some ⟨w.heap.size + 1, 0, none⟩) 256 256, .int .i64 0]) ∧
      w'.heap[w.heap.size + 1]? = some (.cells (enc (latestOf S L n)).toArray 91 (0, 0)) ∧ w'.heap.size = w.heap.size + 2 ∧ Fr w w' (fun _ => False) := by
  subst hv
  have c0 := h.cell0
  have hRl := h.latest_length n hn
  have HL := hide (latest_any h n n rfl hn hb)
  obtain ⟨R, hR⟩ : ∃ R, R = latestOf S L n := ⟨_, rfl⟩
  rw [← hR] at HL hRl ⊢
  clear hR
  have HI := hide (by rw [List.size_toArray, length_enc, hRl]; exact info67 : (Try.prog.info? 91).map (·.size) = some (enc R).toArray.size)
  have HL2 := hide (by simp only [List.size_toArray, length_enc, length_blank, hRl] : (enc blank).toArray.size = (enc R).toArray.size)
  have h0 : (0 : Int) ≤ n := by omega
  have h1 : (n : Int) < (S.length : Int) := by omega
  clear hRl
  go_enter Try.func21, Try.ntmps21
  go_wp2_with (first | (go_at_call 39; refine (has_yes _ _ _ _ _ _ c0 ⟨h0, h1⟩).mono ?_; rintro e w' ⟨rfl, rfl⟩) | (go_at_call 40; refine HL.out.mono ?_; rintro e w' ⟨rfl, rfl⟩) | (refine wpList_alloc67 rfl rfl ?_; intro W1 HW1; have HG := hide (latest_block HW1.out)) | (refine wpList_store_row rfl 91 (.tmp 6) (.tmp 15) rfl _ (enc R).toArray rfl rfl 91 _ HG.out HI.out HL2.out (all_oneCell_toArray (enc_oneCell _)) ?_))
  go_ret2
  have e1 := HW1.out
  refine ⟨rfl, ?_, ?_, ?_⟩
  · exact setRow_heap _ _ _ _ _ _ (read_block e1)
  · rw [setRow_size, e1]; simp
  · rw [e1]
    refine Fr.mono ((Fr.alloc w' _ (fun _ => False)).trans ((Fr.alloc _ _ (fun _ => False)).trans (Fr.setRow _ (w'.heap.size + 1) _))) ?_
    rintro k hk (h2 | h2 | h2)
    · exact h2
    · exact h2
    · omega

end Go.Proofs.Ytpjelmlbikmddaa
