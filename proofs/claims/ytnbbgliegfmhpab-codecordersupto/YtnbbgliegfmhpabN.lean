/- The codec is awake. -/
import Derived.Test.YtnbbgliegfmhpabP
import Derived.Lib.SlBytesConst
namespace Go.Proofs.Ytnbbgliegfmhpab
open Go.RowKit

def wake : List Val := [⟨1, -1, []⟩, ⟨2, 0, [97]⟩]
theorem wake_check : checkL wake = 0 := by decide
theorem wake_wf : Wf wake := by
  intro v hv
  simp only [wake, List.mem_cons, List.not_mem_nil, or_false] at hv
  rcases hv with rfl | rfl <;> simp
theorem wake_sum : crc [49, 50, 51, 52, 53, 54, 55, 56, 57] = 3421780262 := by decide +kernel

theorem vals_block {w : World} {g : Nat} {L : List Val} {t : TypeId} (h : w.heap[g]? = some (.cells (encVs L).toArray t (0, 0))) : Vals w (some ⟨g, 0, none⟩) L := by
  refine .inr ⟨g, 0, rfl, fun j v hv => ?_⟩
  have e : ∀ i, i < 3 → w.cell? ⟨g, 0 + j * 3 + i, none⟩ = (cellsV v)[i]? := by
    intro i hi
    rw [cell_of_row _ _ _ _ _ _ h, Nat.zero_add, ← encVs_get L j v hv i hi]
    simp
  exact ⟨e 0 (by omega), e 1 (by omega), e 2 (by omega)⟩
theorem OwnB.cap {w : World} {a : Option Addr} {n c : Nat} {l : List UInt8} (h : OwnB w (.slice a n c) l) : n ≤ c ∧ (a = none → c = 0) := by
  rcases h.2 with ⟨h1, h2⟩ | ⟨g, cap, cur, hv, _, hg, hle, _, hcs, htk⟩
  · simp only [Value.slice.injEq] at h1
    obtain ⟨rfl, rfl, rfl⟩ := h1
    exact ⟨Nat.le_refl _, fun _ => rfl⟩
  · simp only [Value.slice.injEq] at hv
    obtain ⟨rfl, rfl, rfl⟩ := hv
    exact ⟨hle, by simp⟩
theorem OwnV.at {w : World} {v : Value} {L : List Val} (h : OwnV w v L) (h0 : L ≠ []) : ∃ g c, v = .slice (some ⟨g, 0, none⟩) L.length c ∧ ∀ (j : Nat) (x : Val), L[j]? = some x →
    w.cell? ⟨g, j * 3, none⟩ = some (.int .i64 x.kind) ∧ w.cell? ⟨g, j * 3 + 1, none⟩ = some (.int .i64 x.num) ∧ w.cell? ⟨g, j * 3 + 2, none⟩ = some (.string (strOf x.text)) := by
  rcases h.2 with ⟨h1, h2⟩ | ⟨g, cap, cur, hv, _⟩
  · exact absurd (List.eq_nil_of_length_eq_zero h2) h0
  · refine ⟨g, cap, hv, fun j x hx => ?_⟩
    subst hv
    rcases h.vals with h3 | ⟨g', off, he, hc⟩
    · exact absurd h3 h0
    · simp only [Option.some.injEq, Addr.mk.injEq, and_true] at he
      obtain ⟨rfl, rfl⟩ := he
      have := hc j x hx
      simpa using this
theorem encR_wake : encR wake = encL wake := by rw [encR, if_pos wake_check]
theorem decOut_enc (L : List Val) (hw : Wf L) (h : checkL L = 0) : decOut (encL L) = L ∧ decCode (encL L) = 0 ∧ decAt (encL L) = 0 := by
  simp [decOut, decCode, decAt, dec_enc L hw h]
theorem wake_len : (encL wake).length = 13 := by decide

theorem BI.block {w : World} {g : Nat} {l : List UInt8} {t : TypeId} {fr : Nat × Nat} (h : w.heap[g]? = some (.cells (enc l).toArray t fr)) (n : Nat) (hn : l.length = n) : BI w (some ⟨g, 0, none⟩) n l := by
  refine ⟨hn, .inr ⟨g, 0, rfl, fun j u hu => ?_⟩⟩
  rw [cell_of_row _ _ _ _ _ _ h, Nat.zero_add]
  simp [enc_get, hu, byt]
theorem run_mark1 (w : World) : (convert 24 24 (.slice (some ⟨w.heap.size + 1, 0, none⟩) 4 4)).run Try.prog ((w.alloc (.cells #[.int .i64 0, .int .i64 0] 31)).alloc (.cells #[.int .u8 49, .int .u8 50, .int .u8 51, .int .u8 52] 5)) =
    .ok (.slice (some ⟨w.heap.size + 1, 0, none⟩) 4 4) ((w.alloc (.cells #[.int .i64 0, .int .i64 0] 31)).alloc (.cells #[.int .u8 49, .int .u8 50, .int .u8 51, .int .u8 52] 5 (4, 5))) := by
  have := Lib.run_convert_bytes_const (P := Try.prog) (w.alloc (.cells #[.int .i64 0, .int .i64 0] 31)) 24 5 #[.int .u8 49, .int .u8 50, .int .u8 51, .int .u8 52] 4 4 Try.underlying24 Try.underlying5
  rw [World.size_alloc] at this
  exact this
theorem run_mark2 (w : World) : (convert 24 24 (.slice (some ⟨w.heap.size + 1 + 1, 0, none⟩) 5 5)).run Try.prog (((w.alloc (.cells #[.int .i64 0, .int .i64 0] 31)).alloc (.cells #[.int .u8 49, .int .u8 50, .int .u8 51, .int .u8 52] 5 (4, 5))).alloc (.cells #[.int .u8 53, .int .u8 54, .int .u8 55, .int .u8 56, .int .u8 57] 5)) =
    .ok (.slice (some ⟨w.heap.size + 1 + 1, 0, none⟩) 5 5) (((w.alloc (.cells #[.int .i64 0, .int .i64 0] 31)).alloc (.cells #[.int .u8 49, .int .u8 50, .int .u8 51, .int .u8 52] 5 (4, 5))).alloc (.cells #[.int .u8 53, .int .u8 54, .int .u8 55, .int .u8 56, .int .u8 57] 5 (5, 6))) := by
  have := Lib.run_convert_bytes_const (P := Try.prog) ((w.alloc (.cells #[.int .i64 0, .int .i64 0] 31)).alloc (.cells #[.int .u8 49, .int .u8 50, .int .u8 51, .int .u8 52] 5 (4, 5))) 24 5 #[.int .u8 53, .int .u8 54, .int .u8 55, .int .u8 56, .int .u8 57] 5 5 Try.underlying24 Try.underlying5
  rw [World.size_alloc, World.size_alloc] at this
  exact this
theorem wake_parts (w : World) : Parts ((((w.alloc (.cells #[.int .i64 0, .int .i64 0] 31)).alloc (.cells #[.int .u8 49, .int .u8 50, .int .u8 51, .int .u8 52] 5 (4, 5))).alloc (.cells #[.int .u8 53, .int .u8 54, .int .u8 55, .int .u8 56, .int .u8 57] 5 (5, 6))).alloc (.cells #[.slice (some ⟨w.heap.size + 1, 0, none⟩) 4 4, .slice none 0 0, .slice (some ⟨w.heap.size + 1 + 1, 0, none⟩) 5 5] 24))
    (some ⟨w.heap.size + 1 + 1 + 1, 0, none⟩) [[49, 50, 51, 52], [], [53, 54, 55, 56, 57]] := by
  have h3 := heap_alloc_new (((w.alloc (.cells #[.int .i64 0, .int .i64 0] 31)).alloc (.cells #[.int .u8 49, .int .u8 50, .int .u8 51, .int .u8 52] 5 (4, 5))).alloc (.cells #[.int .u8 53, .int .u8 54, .int .u8 55, .int .u8 56, .int .u8 57] 5 (5, 6))) (.cells #[.slice (some ⟨w.heap.size + 1, 0, none⟩) 4 4, .slice none 0 0, .slice (some ⟨w.heap.size + 1 + 1, 0, none⟩) 5 5] 24)
  have h2 := heap_alloc_new ((w.alloc (.cells #[.int .i64 0, .int .i64 0] 31)).alloc (.cells #[.int .u8 49, .int .u8 50, .int .u8 51, .int .u8 52] 5 (4, 5))) (.cells #[.int .u8 53, .int .u8 54, .int .u8 55, .int .u8 56, .int .u8 57] 5 (5, 6))
  have h1 := heap_alloc_new (w.alloc (.cells #[.int .i64 0, .int .i64 0] 31)) (.cells #[.int .u8 49, .int .u8 50, .int .u8 51, .int .u8 52] 5 (4, 5))
  simp only [World.size_alloc] at h1 h2 h3
  have b2 := (BI.block (l := [53, 54, 55, 56, 57]) h2 5 rfl).fr (Fr.alloc _ (.cells #[.slice (some ⟨w.heap.size + 1, 0, none⟩) 4 4, .slice none 0 0, .slice (some ⟨w.heap.size + 1 + 1, 0, none⟩) 5 5] 24) (fun _ => False)) (fun _ _ _ _ h => h)
  have b1 := ((BI.block (l := [49, 50, 51, 52]) h1 4 rfl).fr (Fr.alloc _ (.cells #[.int .u8 53, .int .u8 54, .int .u8 55, .int .u8 56, .int .u8 57] 5 (5, 6)) (fun _ => False)) (fun _ _ _ _ h => h)).fr (Fr.alloc _ (.cells #[.slice (some ⟨w.heap.size + 1, 0, none⟩) 4 4, .slice none 0 0, .slice (some ⟨w.heap.size + 1 + 1, 0, none⟩) 5 5] 24) (fun _ => False)) (fun _ _ _ _ h => h)
  refine .inr ⟨_, 0, rfl, fun j l hl => ?_⟩
  match j with
  | 0 =>
    simp at hl; subst hl
    exact ⟨_, _, _, by rw [cell_of_row _ _ _ _ _ _ h3]; rfl, b1, by omega⟩
  | 1 =>
    simp at hl; subst hl
    exact ⟨_, _, _, by rw [cell_of_row _ _ _ _ _ _ h3]; rfl, ⟨rfl, .inl rfl⟩, by simp⟩
  | 2 =>
    simp at hl; subst hl
    exact ⟨_, _, _, by rw [cell_of_row _ _ _ _ _ _ h3]; rfl, b2, by omega⟩
  | j + 3 => simp at hl

set_option maxHeartbeats 2000000 in
theorem awake_any (w : World) : Calls Try.prog 5 #[] w fun e w' => e = .returned (.bool true) ∧ Fr w w' (fun _ => False) := by
  go_enter Try.func5, Try.ntmps5
  go_wp2_with fail
  have A0 := Fr.alloc w (.cells (encVs wake).toArray 38) (fun _ => False)
  refine (encode_any (some ⟨w.heap.size, 0, none⟩) 2 wake _ (vals_block (heap_alloc_new w (.cells (encVs wake).toArray 38))) (by decide)).mono ?_
  rintro e w1 ⟨v1, rfl, ho1, F1, _⟩
  rw [encR_wake] at ho1
  rw [wake_check]
  obtain ⟨a1, c1, rfl⟩ := ho1.shape
  have hcap := ho1.cap.1
  have HD := hide (decode_any a1 _ c1 _ w1 ho1.bi (by rw [wake_len]; omega) hcap)
  have HF1 := hide ((A0.trans F1).mono (Y := fun _ => False) (by simp))
  clear ho1 F1 A0 hcap
  go_wp2_with fail
  refine HD.out.mono ?_
  clear HD
  rintro e w2 ⟨v2, rfl, ho2, F2, _⟩
  obtain ⟨d1, d2, d3⟩ := decOut_enc wake wake_wf wake_check
  rw [d1] at ho2
  rw [d2, d3]
  obtain ⟨g2, c2, rfl, hc2⟩ := ho2.at (by simp [wake])
  have x0 := (hc2 0 _ rfl).2.1
  have x1 := (hc2 1 _ rfl).2.2
  have HF2 := hide ((HF1.out.trans F2).mono (Y := fun _ => False) (by simp))
  clear ho2 F2 hc2 d1 d2 d3 HF1
  have hcv1 := run_mark1 w2
  have hcv2 := run_mark2 w2
  have hwl : wake.length = 2 := rfl
  have hg2 : g2 < w2.heap.size := World.block_lt_of_cell? w2 _ x0
  go_wp2_with fail
  have HP := wake_parts w2
  refine (sum_any _ 3 [[49, 50, 51, 52], [], [53, 54, 55, 56, 57]] _ HP (by simp)).mono ?_
  rintro e w3 ⟨rfl, hw3⟩
  have hsm : crc ([[49, 50, 51, 52], [], [53, 54, 55, 56, 57]] : List (List UInt8)).flatten = 3421780262 := wake_sum
  rw [hsm]
  clear HP hcv1 hcv2 hsm
  have F5 : Fr w2 w3 (fun _ => False) := by rw [hw3]; exact (up_two.trans up_two).mono (by simp)
  have T5 : Two w3 w2.heap.size (.int .i64 0) (.int .i64 0) := by rw [hw3]; exact (((two_of (heap_alloc_new w2 (.cells #[.int .i64 0, .int .i64 0] 31))).fr (Fr.alloc _ _ (fun _ => False)) id).fr (Fr.alloc _ _ (fun _ => False)) id).fr (Fr.alloc _ _ (fun _ => False)) id
  clear hw3
  have y0 : w3.cell? ⟨g2, 1, none⟩ = some (.int .i64 (-1)) := by rw [World.cell?_of_block (w := w2) (F5.block g2 hg2 id)]; exact x0
  have y1 : w3.cell? ⟨g2, 5, none⟩ = some (.string ⟨#[97]⟩) := by rw [World.cell?_of_block (w := w2) (F5.block g2 hg2 id)]; exact x1
  have t0 := T5.1
  have HF5 := hide ((HF2.out.trans F5).mono (Y := fun _ => False) (by simp))
  clear F5 T5 x0 x1 HF2
  go_wp2
  go_ret
  exact ⟨rfl, HF5.out⟩
end Go.Proofs.Ytnbbgliegfmhpab
