/- The walk of number. -/
import Derived.Test.YtackfnojafinpaaDoorD
import Derived.Lib.ParseIntBTie
namespace Go.Proofs.YtackfnojafinpaaDoor
open Go.RowKit
set_option linter.unusedVariables false

def decF (acc : Nat) (l : List UInt8) : Nat := l.foldl (fun n b => n * 10 + (b.toNat - 48)) acc
theorem decV_eq (l : List UInt8) : decV l = decF 0 l := rfl
theorem digB_nat {b : UInt8} (h : digB b = true) : 48 ≤ b.toNat ∧ b.toNat ≤ 57 := by
  rw [digB_int] at h; simp at h; omega
theorem parse_digits : ∀ (l : List UInt8) (acc j : Nat), (∀ b ∈ l, digB b = true) → acc < 10 ^ j → j + l.length ≤ 18 → Lib.parseUint10 acc l = .ok (decF acc l) ∧ decF acc l < 10 ^ (j + l.length)
  | [], acc, j, _, ha, _ => ⟨rfl, by simpa [decF] using ha⟩
  | b :: l, acc, j, hd, ha, hl => by
    have hb := digB_nat (hd b (by simp))
    simp only [List.length_cons] at hl
    have h17 : (10 : Nat) ^ j ≤ 10 ^ 17 := Nat.pow_le_pow_right (by omega) (by omega)
    have e17 : (10 : Nat) ^ 17 = 100000000000000000 := by decide
    have hs : acc * 10 + (b.toNat - 48) < 10 ^ (j + 1) := by rw [Nat.pow_succ]; omega
    obtain ⟨h1, h2⟩ := parse_digits l (acc * 10 + (b.toNat - 48)) (j + 1) (fun x hx => hd x (by simp [hx])) hs (by omega)
    refine ⟨?_, ?_⟩
    · simp only [Lib.parseUint10]
      rw [if_pos hb, if_neg (by omega), if_neg (by omega), h1]
      rfl
    · have e : j + (b :: l).length = j + 1 + l.length := by simp; omega
      rw [e]
      exact h2
theorem parse_ok (l : List UInt8) (hd : ∀ b ∈ l, digB b = true) (h0 : l ≠ []) (hl : l.length ≤ 18) : Lib.parseIntB 64 l = .ok (decV l : Int) := by
  rw [Lib.parseIntB_64]
  cases l with
  | nil => exact absurd rfl h0
  | cons b r =>
    have hb := digB_nat (hd b (by simp))
    obtain ⟨h1, h2⟩ := parse_digits (b :: r) 0 0 hd (by simp) (by omega)
    have h3 : (10 : Nat) ^ (0 + (b :: r).length) ≤ 10 ^ 18 := Nat.pow_le_pow_right (by omega) (by omega)
    have e18 : (10 : Nat) ^ 18 = 1000000000000000000 := by decide
    simp only [Lib.atoiAll]
    rw [if_neg (by omega)]
    unfold Lib.parseMag
    rw [if_neg (by simp), h1]
    simp only
    rw [if_neg (by omega), if_neg (by omega), if_neg (by omega), decV_eq]
theorem parse_none : Lib.parseIntB 64 [] = .«syntax» := rfl

/-- The library's error lies where it should. -/
def Errs (w : World) : Prop := ∃ te pe, w.cell? ⟨1, 0, none⟩ = some (.iface te pe)
theorem Errs.fr {w w' : World} {X : Nat → Prop} (h : Errs w) (hf : Fr w w' X) (hx : ¬ X 1) : Errs w' := by
  obtain ⟨te, pe, h⟩ := h
  refine ⟨te, pe, ?_⟩
  rw [World.cell?_of_block (w := w) (hf.block 1 (World.block_lt_of_cell? w _ h) hx)]
  exact h
theorem parseInt_none (s : ByteArray) (w : World) (h : s.data.toList = []) (he : Errs w) :
    Calls Tryd.prog 26 #[.string s, .int .i64 10, .int .i64 64] w fun e w' => ∃ v, e = .returned (.tuple #[.int .i64 0, v]) ∧ Fr w w' (fun _ => False) := by
  obtain ⟨te, pe, he⟩ := he
  refine (Tryd.strconv_ParseInt_10_at64_syntax s (by have : s.data.toList.length = s.size := rfl; rw [h] at this; simp at this; omega) (by rw [h]; rfl) _ w he (.inr ⟨te, pe, rfl⟩)).mono ?_
  rintro e w' ⟨N, rfl, _, _, hb⟩
  exact ⟨_, rfl, Fr.of_below hb⟩
theorem bytesWorld_fr (w : World) (t : TypeId) (x : ByteArray) : Fr w (Lib.bytesWorld w t x) (fun _ => False) := Fr.of_below (Lib.bytesWorld_below _ _ _)
theorem parseInt_some (s : ByteArray) (w : World) (v : Int) (hs : s.size ≤ 4096) (h : Lib.parseIntB 64 s.data.toList = .ok v) :
    Calls Tryd.prog 26 #[.string s, .int .i64 10, .int .i64 64] w fun e w' => ∃ x, e = .returned (.tuple #[.int .i64 v, x]) ∧ Fr w w' (fun _ => False) := by
  refine (Tryd.strconv_ParseInt_10_at64_ok s (by omega) v h w).mono ?_
  rintro e w' ⟨rfl, hw⟩
  refine ⟨_, rfl, ?_⟩
  rcases hw with rfl | ⟨t, rfl⟩
  · exact Fr.refl _ _
  · exact bytesWorld_fr _ _ _

set_option maxHeartbeats 1000000 in
/-- Too many digits, or a letter behind them. -/
theorem number_long (s : ByteArray) (m : Nat) (w : World) (hs : s.size ≤ 4096) (hm : m < s.size) (hl : 18 < runL digB (s.data.toList.drop m)) :
    Calls Tryd.prog 15 #[.string s, .int .i64 m] w fun e w' => (∃ t : Tok, e = .returned (.tuple #[tokV t, .int .i64 m])) ∧ Fr w w' (fun _ => False) := by
  have hp := fun w => pass_dig s m w (by omega) (by omega)
  have h1 : m + 18 < passN digB s m := by unfold passN; omega
  have h2 := passN_le digB s m (by omega)
  clear hl
  generalize passN digB s m = en at *
  go_enter Tryd.func15, Tryd.ntmps15
  go_wp2_with (go_at_call 18; refine (hp _).mono ?_; rintro e w' ⟨rfl, rfl⟩)
  refine bodyPost_ret (v := .tuple #[tokV ⟨0, [], 0, 0⟩, .int .i64 m]) (by simp [results, Tryd.results15, go_sem, tokV, strOf]) rfl ⟨⟨_, rfl⟩, ?_⟩
  exact Fr.alloc _ _ _
set_option maxHeartbeats 1000000 in
theorem number_letter (s : ByteArray) (m : Nat) (w : World) (hs : s.size ≤ 4096) (hm : m < s.size) (hl : runL digB (s.data.toList.drop m) ≤ 18) (hlt : passN digB s m < s.size) (hb : letB s[passN digB s m] = true) :
    Calls Tryd.prog 15 #[.string s, .int .i64 m] w fun e w' => (∃ t : Tok, e = .returned (.tuple #[tokV t, .int .i64 m])) ∧ Fr w w' (fun _ => False) := by
  have hp := fun w => pass_dig s m w (by omega) (by omega)
  have h1 : passN digB s m ≤ m + 18 := by unfold passN; omega
  have h3 := passN_ge digB s m
  have hc := let_any s[passN digB s m]
  rw [hb] at hc
  clear hl hb
  generalize passN digB s m = en at *
  go_enter Tryd.func15, Tryd.ntmps15
  go_wp2_with (first | (go_at_call 18; refine (hp _).mono ?_; rintro e w' ⟨rfl, rfl⟩) | (go_at_call 22; refine (hc _).mono ?_; rintro e w' ⟨rfl, rfl⟩))
  refine bodyPost_ret (v := .tuple #[tokV ⟨0, [], 0, 0⟩, .int .i64 m]) (by simp [results, Tryd.results15, go_sem, tokV, strOf]) rfl ⟨⟨_, rfl⟩, ?_⟩
  exact Fr.alloc _ _ _
set_option maxHeartbeats 1000000 in
/-- As many digits as may be, and no letter behind them: their number is read. -/
theorem number_reads (s : ByteArray) (m : Nat) (w : World) (hs : s.size ≤ 4096) (hm : m < s.size) (hl : runL digB (s.data.toList.drop m) ≤ 18) (hend : ∀ h : passN digB s m < s.size, letB s[passN digB s m] = false)
    (v : Int) (hv : ∀ w1, Fr w w1 (fun _ => False) → Calls Tryd.prog 26 #[.string (s.extract m (passN digB s m)), .int .i64 10, .int .i64 64] w1 fun e w' => ∃ x, e = .returned (.tuple #[.int .i64 v, x]) ∧ Fr w1 w' (fun _ => False)) :
    Calls Tryd.prog 15 #[.string s, .int .i64 m] w fun e w' => e = .returned (.tuple #[.agg #[.int .i64 2, .string (strOf []), .int .i64 v, .int .i64 m], .int .i64 (passN digB s m)]) ∧ Fr w w' (fun _ => False) := by
  have hp := fun w => pass_dig s m w (by omega) (by omega)
  have h1 : passN digB s m ≤ m + 18 := by unfold passN; omega
  have h3 := passN_ge digB s m
  have h2 := passN_le digB s m (by omega)
  have HV := hide hv
  have HE := hide hend
  clear hl hv hend
  generalize passN digB s m = en at *
  have hv2 := HV.out _ (Fr.alloc w (.cells #[.int .i64 0, .string ⟨#[]⟩, .int .i64 0, .int .i64 0] 36) _)
  by_cases hlt : en < s.size
  · have hc := let_any s[en]
    rw [HE.out hlt] at hc
    go_enter Tryd.func15, Tryd.ntmps15
    go_wp2_with (first | (go_at_call 18; refine (hp _).mono ?_; rintro e w' ⟨rfl, rfl⟩) | (go_at_call 22; refine (hc _).mono ?_; rintro e w' ⟨rfl, rfl⟩) | (go_at_call 26; refine hv2.mono ?_; rintro e W ⟨x, rfl, hb⟩; have HF := hide hb; have HB := hide ((four_of (heap_alloc_new w _)).fr hb (fun h => h)); clear hb; have c0 := HB.out.c0; have c1 := HB.out.c1; have c2 := HB.out.c2; have c3 := HB.out.c3; have z0 := HB.out.z))
    exact bodyPost_ret (results_tok Tryd.results15 _ _ w.heap.size (HB.out.fill _ _ _ _) rfl) rfl ⟨rfl, box_fr HF.out _ _ _ _⟩
  · go_enter Tryd.func15, Tryd.ntmps15
    go_wp2_with (first | (go_at_call 18; refine (hp _).mono ?_; rintro e w' ⟨rfl, rfl⟩) | (go_at_call 26; refine hv2.mono ?_; rintro e W ⟨x, rfl, hb⟩; have HF := hide hb; have HB := hide ((four_of (heap_alloc_new w _)).fr hb (fun h => h)); clear hb; have c0 := HB.out.c0; have c1 := HB.out.c1; have c2 := HB.out.c2; have c3 := HB.out.c3; have z0 := HB.out.z))
    exact bodyPost_ret (results_tok Tryd.results15 _ _ w.heap.size (HB.out.fill _ _ _ _) rfl) rfl ⟨rfl, box_fr HF.out _ _ _ _⟩
end Go.Proofs.YtackfnojafinpaaDoor
