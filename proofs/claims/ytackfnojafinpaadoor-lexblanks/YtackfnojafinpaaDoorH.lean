/- The walk of quoted. -/
import Derived.Test.YtackfnojafinpaaDoorG
namespace Go.Proofs.YtackfnojafinpaaDoor
open Go.RowKit
set_option linter.unusedVariables false

theorem quoteT_free (b : UInt8) (r : List UInt8) (h : b ≠ 39) : quoteT (b :: r) = (quoteT r).map (fun x => (b :: x.1, x.2 + 1)) := by
  cases r with
  | nil => simp [quoteT, h]
  | cons c r => simp [quoteT, h]
theorem quoteT_two (r : List UInt8) : quoteT (39 :: 39 :: r) = (quoteT r).map (fun x => (39 :: x.1, x.2 + 2)) := by simp [quoteT]
theorem quoteT_end (r : List UInt8) (h : Lib.hasPrefix r [39] = false) : quoteT (39 :: r) = some ([], 1) := by
  cases r with
  | nil => simp [quoteT]
  | cons c r =>
    have : c ≠ 39 := by
      intro e; subst e
      simp [Lib.hasPrefix] at h
    simp [quoteT, this]
theorem quoteT_run : ∀ (l : List UInt8), quoteT l = (quoteT (l.drop (runL freeB l))).map (fun x => (l.take (runL freeB l) ++ x.1, x.2 + runL freeB l))
  | [] => by simp [quoteT]
  | b :: l => by
    cases h : freeB b with
    | true =>
      have hb : b ≠ 39 := by simpa [freeB] using h
      rw [runL_cons_yes h, quoteT_free b l hb, List.drop_succ_cons, List.take_succ_cons, quoteT_run l]
      simp only [Option.map_map]
      congr 1
    | false =>
      rw [runL_cons_no h]
      simp
theorem free_quote {b : UInt8} (h : freeB b = false) : b = 39 := by simpa [freeB] using h
theorem prefix_quote {r : List UInt8} (h : Lib.hasPrefix r [39] = true) : ∃ q, r = 39 :: q := by
  cases r with
  | nil => simp [Lib.hasPrefix] at h
  | cons c r =>
    simp [Lib.hasPrefix] at h
    exact ⟨r, by rw [h]⟩
theorem Fr.of_belowB {B : Nat} {w w' : World} (h : Below B w w') : Fr w w' (fun k => B ≤ k) := ⟨h.os, h.tape, h.output, h.size, fun k hk hx => h.block k (by omega)⟩
/-- What quoted answers. -/
def QuotePost (l : List UInt8) (m : Nat) (e : Ending) : Prop := match quoteR l with
  | some x => e = .returned (.tuple #[.agg #[.int .i64 3, .string (strOf x.text), .int .i64 0, .int .i64 m], .int .i64 (m + x.len : Nat)])
  | none => ∃ t : Tok, e = .returned (.tuple #[tokV t, .int .i64 m])
/-- What stands within quotes, as far as it is read: the text so far, from which place on. -/
def QInv (s : ByteArray) (m fr : Nat) (txt : List UInt8) : Prop := quoteT (s.data.toList.drop (m + 1)) = (quoteT (s.data.toList.drop fr)).map (fun x => (txt ++ x.1, x.2 + (fr - (m + 1))))
theorem QInv.none {s : ByteArray} {m fr : Nat} {txt : List UInt8} (h : QInv s m fr txt) (he : passN freeB s fr = s.size) : quoteT (s.data.toList.drop (m + 1)) = none := by
  unfold QInv at h
  rw [h, quoteT_run]
  have e : (s.data.toList.drop fr).drop (runL freeB (s.data.toList.drop fr)) = [] := by
    rw [List.drop_drop]
    apply List.drop_eq_nil_of_le
    unfold passN at he
    have : s.data.toList.length = s.size := rfl
    omega
  rw [e]
  rfl
theorem drop_pass (p : UInt8 → Bool) (s : ByteArray) (fr : Nat) : (s.data.toList.drop fr).drop (runL p (s.data.toList.drop fr)) = s.data.toList.drop (passN p s fr) := by
  rw [List.drop_drop]; rfl
theorem quote_at {s : ByteArray} {fr : Nat} (he : passN freeB s fr < s.size) : s.data.toList.drop (passN freeB s fr) = 39 :: s.data.toList.drop (passN freeB s fr + 1) := by
  rcases run_stop freeB (s.data.toList.drop fr) with h | ⟨b, r, h, hb⟩
  · rw [drop_pass] at h
    have := congrArg List.length h
    simp only [List.length_drop, List.length_nil] at this
    have e : s.data.toList.length = s.size := rfl
    omega
  · rw [drop_pass, drop_byte s _ he] at h
    obtain ⟨h1, h2⟩ := List.cons.inj h
    rw [drop_byte s _ he, h1, free_quote hb]
theorem QInv.run {s : ByteArray} {m fr : Nat} {txt : List UInt8} (h : QInv s m fr txt) (hm : m + 1 ≤ fr) (he : passN freeB s fr < s.size) :
    quoteT (s.data.toList.drop (m + 1)) = (quoteT (39 :: s.data.toList.drop (passN freeB s fr + 1))).map (fun x => (txt ++ (s.extract fr (passN freeB s fr)).data.toList ++ x.1, x.2 + (passN freeB s fr - (m + 1)))) := by
  unfold QInv at h
  rw [h, quoteT_run, drop_pass, quote_at he, Option.map_map, extract_pass]
  congr 1
  funext x
  simp only [Function.comp, List.append_assoc, Prod.mk.injEq, true_and]
  unfold passN
  omega
theorem QInv.last {s : ByteArray} {m fr : Nat} {txt : List UInt8} (h : QInv s m fr txt) (hm : m + 1 ≤ fr) (he : passN freeB s fr < s.size) (hp : Lib.hasPrefix (s.data.toList.drop (passN freeB s fr + 1)) [39] = false) :
    quoteT (s.data.toList.drop (m + 1)) = some (txt ++ (s.extract fr (passN freeB s fr)).data.toList, passN freeB s fr - m) := by
  rw [h.run hm he, quoteT_end _ hp]
  simp only [Option.map_some, List.append_nil, Option.some.injEq, Prod.mk.injEq, true_and]
  have := passN_ge freeB s fr
  omega
theorem QInv.next {s : ByteArray} {m fr : Nat} {txt : List UInt8} (h : QInv s m fr txt) (hm : m + 1 ≤ fr) (he : passN freeB s fr < s.size) (hp : Lib.hasPrefix (s.data.toList.drop (passN freeB s fr + 1)) [39] = true) :
    QInv s m (passN freeB s fr + 2) (txt ++ (s.extract fr (passN freeB s fr)).data.toList ++ [39]) ∧ passN freeB s fr + 2 ≤ s.size := by
  obtain ⟨q, hq⟩ := prefix_quote hp
  have h2 : passN freeB s fr + 1 < s.size := by
    have := congrArg List.length hq
    simp only [List.length_drop, List.length_cons] at this
    have e : s.data.toList.length = s.size := rfl
    omega
  have e2 : s.data.toList.drop (passN freeB s fr + 2) = q := by
    have h3 := drop_byte s _ h2
    rw [h3] at hq
    exact (List.cons.inj hq).2
  refine ⟨?_, by omega⟩
  unfold QInv
  rw [h.run hm he, hq, quoteT_two, e2, Option.map_map]
  congr 1
  funext x
  simp only [Function.comp, List.append_assoc, List.cons_append, List.nil_append, Prod.mk.injEq, true_and]
  have := passN_ge freeB s fr
  omega
set_option maxHeartbeats 1000000 in
theorem quoted_no (s : ByteArray) (m : Nat) (w : World) (hs : s.size ≤ 4096) (hm : m < s.size) (hb : s[m] ≠ 39) :
    Calls Tryd.prog 16 #[.string s, .int .i64 m] w fun e w' => (∃ t : Tok, e = .returned (.tuple #[tokV t, .int .i64 m])) ∧ Fr w w' (fun _ => False) := by
  have hb2 : ¬ ((s[m].toNat : Int) = 39) := fun h => hb (UInt8.toNat_inj.1 (by simp; omega))
  clear hb
  go_enter Tryd.func16, Tryd.ntmps16
  go_wp2
  refine bodyPost_ret (v := .tuple #[tokV ⟨0, [], 0, 0⟩, .int .i64 m]) (by simp [results, Tryd.results16, go_sem, tokV, strOf]) rfl ⟨⟨_, rfl⟩, ?_⟩
  exact Fr.alloc _ _ _
set_option maxHeartbeats 4000000 in
theorem quoted_yes (s : ByteArray) (m : Nat) (w : World) (hs : s.size ≤ 4096) (hm : m < s.size) (hb : s[m] = 39) :
    Calls Tryd.prog 16 #[.string s, .int .i64 m] w fun e w' => QuotePost (s.data.toList.drop m) m e ∧ Fr w w' (fun _ => False) := by
  have hb2 : (s[m].toNat : Int) = 39 := by rw [hb]; rfl
  have HQR := hide (show quoteR (s.data.toList.drop m) = (quoteT (s.data.toList.drop (m + 1))).map (fun x => ⟨3, x.1, 0, x.2 + 1⟩) by rw [drop_byte s m hm, hb]; simp [quoteR])
  clear hb
  go_enter Tryd.func16, Tryd.ntmps16
  go_wp2
  clear hb2
  have HG := hide ((four_of (heap_alloc_new w (.cells #[.int .i64 0, .string ⟨#[]⟩, .int .i64 0, .int .i64 0] 36))).fr (Fr.alloc _ (.cells #[.pointer none, .slice none 0 0] 58) (fun _ => False)) (fun h => h))
  have HU := hide (up_two (w := w) (o1 := .cells #[.int .i64 0, .string ⟨#[]⟩, .int .i64 0, .int .i64 0] 36) (o2 := .cells #[.pointer none, .slice none 0 0] 58))
  have HB0 : Hid (Lib.IsBuilder 58 5 (w.heap.size + 1) (w.heap.size + 1) (Lib.byteCells []) ((w.alloc (.cells #[.int .i64 0, .string ⟨#[]⟩, .int .i64 0, .int .i64 0] 36)).alloc (.cells #[.pointer none, .slice none 0 0] 58))) :=
    hide (.inl ⟨Nat.le_refl _, .slice none 0 0, by have := heap_alloc_new (w.alloc (.cells #[.int .i64 0, .string ⟨#[]⟩, .int .i64 0, .int .i64 0] 36)) (.cells #[.pointer none, .slice none 0 0] 58); simpa using this, World.ownsRow_nil _ _ _ _, by simp [Value.ownBlock]⟩)
  generalize hW0 : (w.alloc (.cells #[.int .i64 0, .string ⟨#[]⟩, .int .i64 0, .int .i64 0] 36)).alloc (.cells #[.pointer none, .slice none 0 0] 58) = W0 at *
  have HSZ := hide (show W0.heap.size = w.heap.size + 2 by rw [← hW0]; simp)
  clear hW0
  generalize hbn : w.heap.size + 1 = b at *
  have HBN := hide hbn
  clear hbn
  go_loopw [7] (fun i wr => ∃ (fr : Nat) (txt : List UInt8), i = .int .i64 fr ∧ m + 1 ≤ fr ∧ fr ≤ s.size ∧ Lib.IsBuilder 58 5 b b (Lib.byteCells txt) wr ∧ txt.length ≤ fr ∧ QInv s m fr txt ∧ Fr W0 wr (fun k => b ≤ k)) (fun i _ => s.size - (intOf i).toNat)
  case atStart => exact ⟨m + 1, [], by go_num, Nat.le_refl _, by omega, HB0.out, by simp, by unfold QInv; simp, Fr.refl _ _⟩
  case round =>
    rename World => W
    obtain ⟨fr, txt, rfl, hf1, hf2, hib, htl, hqi, hfr⟩ := hrel
    have HIB := hide hib
    have HQI := hide hqi
    have HFR := hide hfr
    have HTL := hide htl
    have HBW := hide (show b ≤ W.heap.size by have := hfr.size; have := HSZ.out; have := HBN.out; omega)
    have HGW := hide (HG.out.fr hfr (fun h => by have := HBN.out; omega))
    have HF0 := hide ((HU.out.trans hfr).mono (Y := fun _ => False) (fun q hq h => by rcases h with h | h; exact h; (have := HBN.out; omega)))
    clear hib hqi hfr htl HB0
    have hp := fun w => pass_free s fr w (by omega) hf2
    have h1 := passN_ge freeB s fr
    have h2 := passN_le freeB s fr hf2
    by_cases he : passN freeB s fr = s.size
    · have HR := hide (HQI.out.none he)
      rw [he] at hp
      clear h1 h2 he
      have c0 := HGW.out.c0
      have c1 := HGW.out.c1
      have c2 := HGW.out.c2
      have c3 := HGW.out.c3
      have z0 := HGW.out.z
      go_wp2_with (go_at_call 18; refine (hp _).mono ?_; rintro e w' ⟨rfl, rfl⟩)
      refine bodyPost_ret (results_tok Tryd.results16 _ _ w.heap.size (HGW.out.fill _ _ _ _) rfl) rfl ⟨?_, ?_⟩
      · unfold QuotePost
        rw [HQR.out, HR.out]
        exact ⟨⟨0, [], 0, 0⟩, rfl⟩
      · exact (HF0.out.trans (fill_fr _ _ _ _ _ _)).mono (fun q hq h => by rcases h with h | h; exact h; omega)
    · have he2 : passN freeB s fr < s.size := by omega
      clear he h2
      have hw := Tryd.Builder_WriteString b b (Lib.byteCells txt) (s.extract fr (passN freeB s fr)) W HIB.out (by rw [Lib.byteCells_length, ByteArray.size_extract]; have := HTL.out; omega) HBW.out
      have hh := fun W => Tryd.strings_HasPrefix (s.extract (passN freeB s fr + 1) s.size) ⟨#[39]⟩ W
      rw [extract_rest] at hh
      have hh : ∀ W, Calls Tryd.prog 29 #[.string (s.extract (passN freeB s fr + 1) s.size), .string ⟨#[39]⟩] W fun e w' => e = .returned (.bool (Lib.hasPrefix (s.data.toList.drop (passN freeB s fr + 1)) [39])) ∧ w' = W := hh
      have HTX := hide (show (txt ++ (s.extract fr (passN freeB s fr)).data.toList).length ≤ passN freeB s fr by
        rw [List.length_append]
        have e : (s.extract fr (passN freeB s fr)).data.toList.length = (s.extract fr (passN freeB s fr)).size := rfl
        rw [e, ByteArray.size_extract]
        have := HTL.out
        omega)
      cases hpre : Lib.hasPrefix (s.data.toList.drop (passN freeB s fr + 1)) [39] with
      | false =>
        have HR := hide (HQI.out.last hf1 he2 hpre)
        rw [hpre] at hh
        clear hpre
        generalize hx : txt ++ (s.extract fr (passN freeB s fr)).data.toList = tx at *
        have HX := hide hx
        clear hx
        generalize passN freeB s fr = en at *
        go_wp2_with (first | (go_at_call 18; refine (hp _).mono ?_; rintro e w' ⟨rfl, rfl⟩) | (go_at_call 29; refine (hh _).mono ?_; rintro e w' ⟨rfl, rfl⟩) | (go_at_call 28; refine hw.mono ?_; rintro e W1 ⟨rfl, hB1, hb1⟩; rw [Lib.strCells_eq, ← Lib.byteCells_append, HX.out] at hB1; have hst := Tryd.Builder_String_any b b tx W1 (.inr hB1) (by have := hb1.size; have := HBW.out; omega); have HB1 := hide hb1; clear hb1 hB1) | (go_at_call 30; refine hst.mono ?_; rintro e W2 ⟨rfl, hb2⟩; have HF2 := hide ((Fr.of_belowB HB1.out).trans (Fr.of_belowB hb2)); have HG2 := hide (HGW.out.fr HF2.out (fun h => by have := HBN.out; omega)); clear hb2 hst; have c0 := HG2.out.c0; have c1 := HG2.out.c1; have c2 := HG2.out.c2; have c3 := HG2.out.c3; have z0 := HG2.out.z))
        refine bodyPost_ret (results_tok Tryd.results16 _ _ w.heap.size (HG2.out.fill _ _ _ _) rfl) rfl ⟨?_, ?_⟩
        · unfold QuotePost
          rw [HQR.out, HR.out]
          simp only [Option.map_some]
          rw [show m + (en - m + 1) = en + 1 by omega]
          rfl
        · exact ((HF0.out.trans HF2.out).trans (fill_fr _ _ _ _ _ _)).mono (fun q hq h => by rcases h with (h | h) | h; exact h; (have := HBN.out; omega); omega)
      | true =>
        obtain ⟨hq1, hq2⟩ := HQI.out.next hf1 he2 hpre
        have HR := hide hq1
        clear hq1
        rw [hpre] at hh
        clear hpre
        generalize hx : txt ++ (s.extract fr (passN freeB s fr)).data.toList = tx at *
        have HX := hide hx
        clear hx
        generalize passN freeB s fr = en at *
        go_wp2_with (first | (go_at_call 18; refine (hp _).mono ?_; rintro e w' ⟨rfl, rfl⟩) | (go_at_call 29; refine (hh _).mono ?_; rintro e w' ⟨rfl, rfl⟩) | (go_at_call 28; refine hw.mono ?_; rintro e W1 ⟨rfl, hB1, hb1⟩; rw [Lib.strCells_eq, ← Lib.byteCells_append, HX.out] at hB1; have hst := Tryd.Builder_WriteByte b b (Lib.byteCells tx) 39 W1 (.inr hB1) (by rw [Lib.byteCells_length]; have := HTX.out; omega) (by have := hb1.size; have := HBW.out; omega); have HB1 := hide hb1; clear hb1 hB1) | (go_at_call 31; refine hst.mono ?_; rintro e W2 ⟨rfl, hB2, hb2⟩; have HF2 := hide ((Fr.of_belowB HB1.out).trans (Fr.of_belowB hb2)); have HB2 := hide hB2; clear hb2 hst hB2))
        go_roundw
        case rel => exact ⟨en + 2, tx ++ [39], by go_num, by omega, by omega, by rw [Lib.byteCells_append]; exact .inr HB2.out, by have := HTX.out; simp; omega, HR.out, (HFR.out.trans HF2.out).mono (fun q hq h => by rcases h with h | h | h <;> exact h)⟩
        case measure => simp [intOf]; omega
end Go.Proofs.YtackfnojafinpaaDoor
