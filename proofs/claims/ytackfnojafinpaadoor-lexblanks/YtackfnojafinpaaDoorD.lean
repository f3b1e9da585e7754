/- The walk of word. -/
import Derived.Test.YtackfnojafinpaaDoorE
namespace Go.Proofs.YtackfnojafinpaaDoor
open Go.RowKit
set_option linter.unusedVariables false

/-- What a reader answers. -/
def Reads (r : Option Bit) (m : Nat) (e : Ending) : Prop := match r with
  | some x => e = .returned (.tuple #[tokV (x.tok m), .int .i64 (m + x.len : Nat)])
  | none => ∃ t : Tok, e = .returned (.tuple #[tokV t, .int .i64 m])
theorem passN_ge (p : UInt8 → Bool) (s : ByteArray) (m : Nat) : m ≤ passN p s m := by unfold passN; omega
theorem passN_le (p : UInt8 → Bool) (s : ByteArray) (m : Nat) (h : m ≤ s.size) : passN p s m ≤ s.size := by
  have := runL_le p (s.data.toList.drop m)
  simp only [List.length_drop] at this
  have e : s.data.toList.length = s.size := rfl
  unfold passN; omega
theorem extract_toList (s : ByteArray) (a b : Nat) : (s.extract a b).data.toList = (s.data.toList.drop a).take (b - a) := by
  simp
/-- The bytes that are passed. -/
theorem extract_pass (p : UInt8 → Bool) (s : ByteArray) (m : Nat) : (s.extract m (passN p s m)).data.toList = (s.data.toList.drop m).take (runL p (s.data.toList.drop m)) := by
  rw [extract_toList]; congr 1; unfold passN; omega
theorem headLet_drop (s : ByteArray) (m : Nat) (h : m < s.size) : headLet (s.data.toList.drop m) = letB s[m] := by rw [drop_byte s m h]; rfl

theorem wordB_ascii (b : UInt8) (h : wordB b = true) : b.toNat < 128 := by
  unfold wordB at h
  rw [letB_int, digB_int] at h
  simp at h
  omega
set_option maxHeartbeats 1000000 in
theorem word_no (s : ByteArray) (m : Nat) (w : World) (hs : s.size ≤ 4096) (hm : m < s.size) (hl : letB s[m] = false) :
    Calls Tryd.prog 14 #[.string s, .int .i64 m] w fun e w' => (∃ t : Tok, e = .returned (.tuple #[tokV t, .int .i64 m])) ∧ Fr w w' (fun _ => False) := by
  have hc := let_any s[m]
  rw [hl] at hc
  clear hl
  go_enter Tryd.func14, Tryd.ntmps14
  go_wp2_with (go_at_call 22; refine (hc _).mono ?_; rintro e w' ⟨rfl, rfl⟩)
  refine bodyPost_ret (v := .tuple #[tokV ⟨0, [], 0, 0⟩, .int .i64 m]) (by simp [results, Tryd.results14, go_sem, tokV, strOf]) rfl ⟨⟨_, rfl⟩, ?_⟩
  exact Fr.alloc _ _ _
set_option maxHeartbeats 1000000 in
theorem word_yes (s : ByteArray) (m : Nat) (w : World) (hs : s.size ≤ 4096) (hm : m < s.size) (hl : letB s[m] = true) :
    Calls Tryd.prog 14 #[.string s, .int .i64 m] w fun e w' => e = .returned (.tuple #[.agg #[.int .i64 1, .string (strOf (Lib.toUpperA ((s.data.toList.drop m).take (runL wordB (s.data.toList.drop m))))), .int .i64 0, .int .i64 m], .int .i64 (passN wordB s m)]) ∧ Fr w w' (fun _ => False) := by
  have hc := let_any s[m]
  rw [hl] at hc
  clear hl
  have hp := fun w => pass_word s m w (by omega) (by omega)
  have h1 := passN_ge wordB s m
  have h2 := passN_le wordB s m (by omega)
  have HE := hide (extract_pass wordB s m)
  have hu : ∀ w, Calls Tryd.prog 25 #[.string (s.extract m (passN wordB s m))] w fun e w' => e = .returned (.string (strOf (Lib.toUpperA ((s.data.toList.drop m).take (runL wordB (s.data.toList.drop m)))))) ∧ Below w.heap.size w w' := by
    intro w
    have := Tryd.strings_ToUpper_ascii (s.extract m (passN wordB s m)) w (by rw [ByteArray.size_extract]; omega) (fun j b hb => by
      rw [HE.out] at hb
      exact wordB_ascii b (run_all wordB _ b (List.mem_of_getElem? hb)))
    rw [HE.out] at this
    exact this
  generalize strOf (Lib.toUpperA ((s.data.toList.drop m).take (runL wordB (s.data.toList.drop m)))) = u at *
  generalize passN wordB s m = en at *
  go_enter Tryd.func14, Tryd.ntmps14
  go_wp2_with (first | (go_at_call 22; refine (hc _).mono ?_; rintro e w' ⟨rfl, rfl⟩) | (go_at_call 18; refine (hp _).mono ?_; rintro e w' ⟨rfl, rfl⟩) | (go_at_call 25; refine (hu _).mono ?_; rintro e W ⟨rfl, hb⟩; have HF := hide (Fr.of_below hb); have HB := hide ((four_of (heap_alloc_new w _)).fr (Fr.of_below hb) (fun h => h)); clear hb; have c0 := HB.out.c0; have c1 := HB.out.c1; have c2 := HB.out.c2; have c3 := HB.out.c3; have z0 := HB.out.z))
  exact bodyPost_ret (results_tok Tryd.results14 _ _ w.heap.size (HB.out.fill _ _ _ _) rfl) rfl ⟨rfl, box_fr HF.out _ _ _ _⟩
end Go.Proofs.YtackfnojafinpaaDoor
