/- Pages within some blocks; the page is awake. -/
import Derived.Test.YtnkjknlacmeloaaJ
namespace Go.Proofs.Ytnkjknlacmeloaa
open Go.RowKit
set_option linter.unusedVariables false

section
variable {w : World} {b : Nat} {F : Nat → Prop} {R : List (List UInt8)} {m : Int}
theorem countIn (h : PageIn w b F R m) : Calls Try.prog 14 #[.pointer (some ⟨b, 0, none⟩)] w fun e w' => e = .returned (.int .i64 R.length) ∧ w' = w := by
  obtain ⟨v, gs, h1, h2⟩ := h
  exact count_any w b v gs R m h1
theorem markIn (h : PageIn w b F R m) : Calls Try.prog 19 #[.pointer (some ⟨b, 0, none⟩)] w fun e w' => e = .returned (.int .i64 m) ∧ w' = w := by
  obtain ⟨v, gs, h1, h2⟩ := h
  exact mark_any w b v gs R m h1
theorem leftIn (h : PageIn w b F R m) : Calls Try.prog 17 #[.pointer (some ⟨b, 0, none⟩)] w fun e w' => e = .returned (.int .i64 (256 - (usedP R : Int))) ∧ w' = w := by
  obtain ⟨v, gs, h1, h2⟩ := h
  exact left_any w b v gs R m h1
theorem roomIn (h : PageIn w b F R m) : Calls Try.prog 15 #[.pointer (some ⟨b, 0, none⟩)] w fun e w' => e = .returned (.int .i64 (roomP R)) ∧ w' = w := by
  obtain ⟨v, gs, h1, h2⟩ := h
  exact room_any w b v gs R m h1
theorem getNo (h : PageIn w b F R m) (s : Int) (hs : decide (0 ≤ s ∧ s < R.length) = false) : Calls Try.prog 22 #[.pointer (some ⟨b, 0, none⟩), .int .i64 s] w fun e w' => e = .returned (.tuple #[.slice none 0 0, .int .i64 4]) ∧ w' = w := by
  obtain ⟨v, gs, h1, h2⟩ := h
  exact get_no w b v gs R m s h1 hs
theorem getYes (h : PageIn w b F R m) (s : Int) (k : Nat) (r : List UInt8) (hs : s = k) (hr : R[k]? = some r) :
    Calls Try.prog 22 #[.pointer (some ⟨b, 0, none⟩), .int .i64 s] w fun e w' => e = .returned (.tuple #[recV w.heap.size r.length, .int .i64 0]) ∧ w'.heap[w.heap.size]? = some (.cells (enc r).toArray 5 (0, 0)) ∧ Fr w w' (fun _ => False) ∧ w'.heap.size = w.heap.size + 1 := by
  obtain ⟨v, gs, h1, h2⟩ := h
  exact get_yes w b v gs R m s k r h1 hs hr
theorem bytesIn (h : PageIn w b F R m) : Calls Try.prog 12 #[.pointer (some ⟨b, 0, none⟩)] w fun e w' => e = .returned (recV w.heap.size 256) ∧ w'.heap[w.heap.size]? = some (.cells (enc (bytesP R m)).toArray 5 (0, 0)) ∧ Fr w w' (fun _ => False) := by
  obtain ⟨v, gs, h1, h2⟩ := h
  exact bytes_any w b v gs R m h1
theorem setMarkIn (h : PageIn w b F R m) (x : Int) (hx : -9223372036854775808 ≤ x ∧ x < 9223372036854775808) : Calls Try.prog 24 #[.pointer (some ⟨b, 0, none⟩), .int .i64 x] w fun e w' => e = .returned (.tuple #[]) ∧ PageIn w' b F R x ∧ Fr w w' F := by
  obtain ⟨v, gs, h1, h2⟩ := h
  refine (setMark_any w b v gs R m x h1 hx).mono ?_
  rintro e w' ⟨he, p1, p2⟩
  exact ⟨he, ⟨v, gs, p1, h2⟩, p2.mono (fun k _ hk => h2 k (.inl hk))⟩
theorem setNo (h : PageIn w b F R m) (s : Int) (hs : decide (0 ≤ s ∧ s < R.length) = false) (x : Int) (u : Value) : Calls Try.prog 25 #[.pointer (some ⟨b, 0, none⟩), .int .i64 s, .int .i64 x, u] w fun e w' => e = .returned (.int .i64 4) ∧ w' = w := by
  obtain ⟨v, gs, h1, h2⟩ := h
  exact set_no w b v gs R m s h1 hs x u
theorem setOut (h : PageIn w b F R m) (k : Nat) (r : List UInt8) (hr : R[k]? = some r) (x : Int) (a : Option Addr) (n c : Nat) (hn : n ≤ 140737488355328) (hx : x < 0 ∨ (r.length : Int) - n < x) :
    Calls Try.prog 25 #[.pointer (some ⟨b, 0, none⟩), .int .i64 k, .int .i64 x, .slice a n c] w fun e w' => e = .returned (.int .i64 1) ∧ w' = w := by
  obtain ⟨v, gs, h1, h2⟩ := h
  exact set_out w b v gs R m k r h1 hr x a n c hn hx
theorem setYes (h : PageIn w b F R m) (k : Nat) (r : List UInt8) (hr : R[k]? = some r) (x : Nat) (a : Option Addr) (n c : Nat) (l : List UInt8) (hb : BI w a n l) (hx : x + n ≤ r.length) :
    Calls Try.prog 25 #[.pointer (some ⟨b, 0, none⟩), .int .i64 k, .int .i64 x, .slice a n c] w fun e w' => e = .returned (.int .i64 0) ∧ PageIn w' b F (R.set k (over r x l)) m ∧ Fr w w' F := by
  obtain ⟨v, gs, h1, h2⟩ := h
  refine (set_ok w b v gs R m k r h1 hr x a n c l hb hx).mono ?_
  rintro e w' ⟨he, p1, p2⟩
  exact ⟨he, ⟨v, gs, p1, h2⟩, p2.mono (fun q _ hq => h2 q (.inr (.inr hq)))⟩
theorem addFull (h : PageIn w b F R m) (a : Option Addr) (n c : Nat) (hl : n ≤ 200) (hf : 256 < usedP R + (1 + n)) : Calls Try.prog 23 #[.pointer (some ⟨b, 0, none⟩), .slice a n c] w fun e w' => e = .returned (.tuple #[.int .i64 0, .int .i64 3]) ∧ w' = w := by
  obtain ⟨v, gs, h1, h2⟩ := h
  exact add_full w b v gs R m h1 a n c hl hf
end
theorem newIn (w : World) : PageIn (w.alloc (.cells #[.int .i64 0, .slice none 0 0] 58)) w.heap.size (fun k => k = w.heap.size) [] 0 :=
  ⟨_, _, pageAt_new w, fun k hk => by rcases hk with hk | hk | hk; exact hk; cases hk; cases hk⟩

def abc : List UInt8 := [97, 98, 99]
theorem run_abc (w : World) : (convert 29 29 (.slice (some ⟨w.heap.size, 0, none⟩) 3 3)).run Try.prog (w.alloc (.cells #[.int .u8 97, .int .u8 98, .int .u8 99] 5)) =
    .ok (.slice (some ⟨w.heap.size, 0, none⟩) 3 3) (w.alloc (.cells #[.int .u8 97, .int .u8 98, .int .u8 99] 5 (3, 4))) :=
  Lib.run_convert_bytes_const (P := Try.prog) w 29 5 #[.int .u8 97, .int .u8 98, .int .u8 99] 3 3 Try.underlying29 Try.underlying5
theorem fits_abc : FitsP [abc] := ⟨by decide, by decide⟩

set_option maxRecDepth 100000 in
set_option maxHeartbeats 2000000 in
theorem awake_any (w : World) : Calls Try.prog 9 #[] w fun e w' => e = .returned (.bool true) ∧ Fr w w' (fun _ => False) := by
  go_enter Try.func9, Try.ntmps9
  go_wp2_with (go_at_call 10; refine (new_any _).mono ?_; rintro e V ⟨rfl, hV⟩; have HV := hide hV; have hcv := run_abc V; clear hV) 
  have hb1 : BI (V.alloc (.cells #[.int .u8 97, .int .u8 98, .int .u8 99] 5 (3, 4))) (some ⟨V.heap.size, 0, none⟩) 3 abc := BI.block (l := abc) (heap_alloc_new V (.cells (enc abc).toArray 5 (3, 4))) 3 rfl
  have FA := Fr.alloc V (.cells #[.int .u8 97, .int .u8 98, .int .u8 99] 5 (3, 4)) (fun _ => False)
  have F0 : Fr w V (fun _ => False) := by rw [HV.out]; exact Fr.alloc _ _ _
  have hp0 : PageIn V w.heap.size (fun k => w.heap.size ≤ k) [] 0 := by rw [HV.out]; exact (newIn w).mono (fun k _ h => by omega)
  have hp1 := hp0.keep FA
  have F1 : Fr w _ (fun _ => False) := (F0.trans FA).mono (by simp)
  clear hcv hp0
  generalize V.alloc (.cells #[.int .u8 97, .int .u8 98, .int .u8 99] 5 (3, 4)) = V1 at *
  refine (addIn hp1 _ 3 3 abc hb1 (by omega) (by decide)).mono ?_
  rintro e V2 ⟨rfl, hp2, f2⟩
  have s1 := F1.size
  have F2 : Fr w V2 (fun _ => False) := (F1.trans f2).mono (fun k hk h => by rcases h with h | h; exact h; omega)
  have HP2 := hide (hp2.mono (G := fun k => w.heap.size ≤ k) (fun k _ h => by rcases h with h | h <;> omega))
  have HF2 := hide F2
  clear hb1 FA F0 hp1 F1 hp2 f2 F2 HV
  rw [List.nil_append] at HP2
  go_wp2_with fail
  refine (bytesIn HP2.out).mono ?_
  rintro e V3 ⟨rfl, hg3, F3⟩
  have hb3 := BI.block hg3 256 (length_bytesP fits_abc 0)
  have HF3 := hide ((HF2.out.trans F3).mono (Y := fun _ => False) (by simp))
  have HB3 := hide hb3
  clear hg3 F3 hb3 HF2
  go_wp2_with fail
  refine (open_any V3 _ 256 256 _ HB3.out (by omega) (by omega)).mono ?_
  rintro e V4 ⟨ho, F4⟩
  rw [open_bytes fits_abc 0 (by omega)] at ho
  obtain ⟨b4, rfl, hp4⟩ := ho
  have HP4 := hide hp4
  have HF4 := hide ((HF3.out.trans F4).mono (Y := fun _ => False) (by simp))
  clear F4 hp4 HF3 HB3 HP2
  go_wp2_with fail
  refine (getYes HP4.out 0 0 abc rfl rfl).mono ?_
  rintro e V5 ⟨rfl, hg5, F5, hs5⟩
  have hcv := run_string V5 (some ⟨V4.heap.size, 0, none⟩) 3 3 abc (BI.block hg5 3 rfl).bin
  have HP5 := hide (HP4.out.keep F5)
  have HF5 := hide ((HF4.out.trans F5).mono (Y := fun _ => False) (by simp))
  have hl3 : abc.length = 3 := rfl
  have hst : strOf abc = ⟨#[97, 98, 99]⟩ := rfl
  rw [hl3]
  unfold recV
  clear F5 hs5 hg5 HF4 HP4
  go_wp2_with (go_at_call 14; refine (countIn HP5.out).mono ?_; rintro e w' ⟨rfl, hw⟩; obtain rfl := hw.symm; clear hw)
  go_ret
  exact ⟨rfl, HF5.out⟩
end Go.Proofs.Ytnkjknlacmeloaa
