/- A log is opened. -/
import Derived.Test.YtpjelmlbikmddaaWp
import Derived.Test.YtpjelmlbikmddaaDs
namespace Go.Proofs.Ytpjelmlbikmddaa
open Go.RowKit
set_option maxRecDepth 100000
set_option linter.unusedVariables false

theorem bytesOf_length {w : World} {b gs cs : Nat} {Cs : Array Value} {pv : Value} {S : List (List UInt8)} {L : List (Nat × List UInt8)} (h : DiskIs w b gs cs Cs pv S L) (first : Nat) : ∀ k, first + k ≤ S.length → (bytesOf S L first k).length = k * 256
  | 0, _ => rfl
  | k + 1, hk => by
    rw [bytesOf, List.length_append, bytesOf_length h first k (by omega), h.latest_length (first + k) (by omega)]
    omega
theorem RecsAt.low {w : World} {lo lo' : Nat} {v : Value} {M : List MRec} (h : RecsAt w lo v M) (hl : lo' ≤ lo) : RecsAt w lo' v M :=
  ⟨h.row, h.data, fun r hr q hq => ⟨(h.apart r hr q hq).1, Nat.le_trans hl (h.apart r hr q hq).2⟩, fun q hq => Nat.le_trans hl (h.fresh q hq)⟩
theorem DiskIs.bl {w : World} {b gs cs : Nat} {Cs : Array Value} {pv : Value} {S : List (List UInt8)} {L : List (Nat × List UInt8)} (h : DiskIs w b gs cs Cs pv S L) : b < w.heap.size ∧ gs < w.heap.size ∧ ∀ q, pv.ownBlock = some q → q < w.heap.size := by
  refine ⟨?_, ?_, fun q hq => (h.pend.lt q hq).2⟩
  · rcases Nat.lt_or_ge b w.heap.size with h1 | h1
    · exact h1
    · have := h.here; rw [Array.getElem?_eq_none h1] at this; cases this
  · rcases Nat.lt_or_ge gs w.heap.size with h1 | h1
    · exact h1
    · have := h.secs; rw [Array.getElem?_eq_none h1] at this; cases this
theorem DiskIs.apart {w w' : World} {X : Nat → Prop} {b gs cs : Nat} {Cs : Array Value} {pv : Value} {S : List (List UInt8)} {L : List (Nat × List UInt8)} (h : DiskIs w b gs cs Cs pv S L) (hf : Fr w w' X) (h1 : ¬ X b) (h2 : ¬ X gs) (h3 : ∀ q, pv.ownBlock = some q → ¬ X q) : DiskIs w' b gs cs Cs pv S L :=
  ⟨by rw [hf.block b h.bl.1 h1]; exact h.here, by rw [hf.block gs h.bl.2.1 h2]; exact h.secs, h.le, h.max, h.size, h.take, ownsRow_fr h.pend hf h3, h.ne1, h.ne2, h.ne3, h.lens, h.lenw⟩

set_option maxRecDepth 100000 in
set_option maxHeartbeats 3000000 in
theorem open_any {w : World} {b gs cs : Nat} {Cs : Array Value} {pv : Value} {S : List (List UInt8)} {L : List (Nat × List UInt8)} (h : DiskIs w b gs cs Cs pv S L) (first count : Nat) (hc1 : 1 ≤ count) (hfc : first + count ≤ S.length) (hS4 : S.length ≤ 4096) (hL : L.length ≤ 1048576) :
    Calls Try.prog 26 #[.pointer (some ⟨b, 0, none⟩), .int .i64 (first : Int), .int .i64 (count : Int)] w fun x w' => ∃ v M e s g ta tc Cs', x = .returned (.tuple #[.pointer (some ⟨g, 0, none⟩), v, .int .i64 0]) ∧ Took (bytesOf S L first count) (plainR M) e s ∧ recAt (bytesOf S L first count) e s = none ∧ RecsAt w' w.heap.size v M ∧ LogAt w' g b first count ta (e % 256) tc e s ∧ OwnB w' (.slice ta (e % 256) tc) (((bytesOf S L first count).drop (e / 256 * 256)).take (e % 256)) ∧
      DiskIs w' b gs cs Cs' (.slice none 0 0) (laysTo S (L ++ wipes (cleanB (bytesOf S L first count) e) (bytesOf S L first count) first count) (fun _ => some 256) (L ++ wipes (cleanB (bytesOf S L first count) e) (bytesOf S L first count) first count).length) [] ∧ w.heap.size ≤ g ∧ v.ownBlock ≠ some g ∧ (∀ q, (Value.slice ta (e % 256) tc).ownBlock = some q → w.heap.size ≤ q ∧ v.ownBlock ≠ some q ∧ q ≠ g) ∧ Fr w w' (fun k => k = b ∨ k = gs ∨ pv.ownBlock = some k) := by
  have Hh := hide h
  have c0 := h.cell0
  have hse := fun W (hc : W.cell? ⟨b, 0, none⟩ = some (.slice (some ⟨gs, 0, none⟩) S.length cs)) => sectors_any b _ _ _ W hc
  have ws : IntKind.i64.wrap ((S.length : Int) - (count : Int)) = (S.length : Int) - (count : Int) := by rw [IntKind.wrap_i64]; omega
  clear h
  go_enter Try.func26, Try.ntmps26
  go_wp2_with fail
  refine (hse w c0).mono ?_
  rintro x W ⟨rfl, rfl⟩
  go_wp2_with fail
  have FA := Fr.alloc W (.cells #[.pointer (some ⟨b, 0, none⟩), .int .i64 (first : Int), .int .i64 (count : Int), .slice none 0 0, .int .i64 0, .int .u32 0] 104) (fun _ => False)
  have HLG0 : Hid (LogAt (W.alloc (.cells #[.pointer (some ⟨b, 0, none⟩), .int .i64 (first : Int), .int .i64 (count : Int), .slice none 0 0, .int .i64 0, .int .u32 0] 104)) W.heap.size b first count none 0 0 0 0) := six_of (heap_alloc_new W _)
  have HD0 := hide (Hh.out.kept FA)
  have HFA := hide FA
  have hsa : (W.alloc (.cells #[.pointer (some ⟨b, 0, none⟩), .int .i64 (first : Int), .int .i64 (count : Int), .slice none 0 0, .int .i64 0, .int .u32 0] 104)).heap.size = W.heap.size + 1 := by simp
  generalize W.alloc (.cells #[.pointer (some ⟨b, 0, none⟩), .int .i64 (first : Int), .int .i64 (count : Int), .slice none 0 0, .int .i64 0, .int .u32 0] 104) = W0 at *
  obtain ⟨g, hg⟩ : ∃ g, g = W.heap.size := ⟨_, rfl⟩
  rw [← hg] at HLG0 hsa ⊢
  obtain ⟨hbl, hgs, hpl⟩ := Hh.out.bl
  have hbl' : b < g := by omega
  have hgs' : gs < g := by omega
  have HPL := hide (show ∀ q, pv.ownBlock = some q → q < g from fun q hq => by have := hpl q hq; omega)
  have HG := hide hg
  clear FA c0 hse hg hpl hbl hgs
  refine (wread_any HD0.out (by omega) g first count HLG0.out.c0 HLG0.out.c1 HLG0.out.c2 hfc hS4).mono ?_
  rintro x W1 ⟨v1, rfl, o1, f1, x1⟩
  have hBl := bytesOf_length HD0.out first count hfc
  obtain ⟨B, hB⟩ : ∃ B, B = bytesOf S L first count := ⟨_, rfl⟩
  rw [← hB] at o1 hBl
  have HB := hide hB
  clear hB
  obtain ⟨q0, fc, hv1⟩ : ∃ q0 fc, v1 = .slice (some ⟨q0, 0, none⟩) B.length fc := by
    rcases o1.2 with ⟨_, h2⟩ | ⟨q0, cap, cur, hv, _⟩
    · omega
    · exact ⟨q0, cap, hv⟩
  subst hv1
  have hq0 : W0.heap.size ≤ q0 := x1 q0 rfl
  obtain ⟨fn, hfn⟩ : ∃ fn, fn = B.length := ⟨_, rfl⟩
  rw [← hfn] at o1 hBl ⊢
  have HBI1 := hide o1.bi
  have HCP := hide o1.cap.1
  have HLG1 := hide (HLG0.out.fr f1 (fun h => h))
  have HD1 := hide (HD0.out.kept f1)
  have HF1 := hide ((HFA.out.trans f1).mono (Y := fun _ => False) (by simp))
  have hs1 := f1.size
  have hfn1 : fn ≤ count * 256 := by omega
  have hfn2 : count * 256 ≤ fn := by omega
  have HFN := hide hBl
  clear o1 f1 x1 HLG0 HD0 HFA hfn hBl
  go_wp2_with fail
  refine (take_any HLG1.out (some ⟨q0, 0, none⟩) fn fc B HBI1.out HCP.out (by omega) (by omega) (fun q off h1 => by simp only [Option.some.injEq, Addr.mk.injEq, and_true] at h1; omega)).mono ?_
  rintro x W2 ⟨v, M, e, s, ta, tc, rfl, htk, hrn, hrs, hlg, hot, hap, f2⟩
  have hel := htk.le
  have hln : B.length = fn := HBI1.out.1
  have HTK := hide htk
  have HRN := hide hrn
  have HRS := hide (hrs.low (show g + 1 ≤ W1.heap.size by omega))
  have HLG2 := hide hlg
  have HOT := hide hot
  have HAP := hide hap
  have HD2 := hide (HD1.out.apart f2 (by omega) (by omega) (fun q hq h => by have := HPL.out q hq; omega))
  have HBI2 := hide (HBI1.out.fr f2 (fun q off h1 _ h2 => by simp only [Option.some.injEq, Addr.mk.injEq, and_true] at h1; omega))
  have HF2 := hide ((HF1.out.trans f2).mono (Y := fun _ => False) (by intro k hk h1; have := HG.out; rcases h1 with h1 | h1; exact h1; omega))
  clear htk hrn hrs hlg hot hap f2
  go_wp2_with fail
  refine (wipe_any HD2.out HLG2.out (some ⟨q0, 0, none⟩) fn fc B HBI2.out HCP.out (by omega) (by omega) hc1 hfc hS4 hL (by omega) (fun h => by have := HPL.out g h; omega) (fun q off h1 => by simp only [Option.some.injEq, Addr.mk.injEq, and_true] at h1; exact ⟨by omega, fun h2 => by have := HPL.out q h2; omega⟩)).mono ?_
  rintro x W3 ⟨rfl, pv3, hd3, hp3, f3⟩
  have HD3 := hide hd3
  have HLG3 := hide (HLG2.out.fr f3 (by rintro (h1 | h1); omega; (have := HPL.out g h1; omega)))
  have HRS3 := hide (HRS.out.fr f3 (fun k h1 => by rcases h1 with h1 | h1; omega; (have := HPL.out k h1; omega)))
  have HOT3 := hide (HOT.out.fr f3 (fun q hq h1 => by have := (HAP.out q hq).1; rcases h1 with h1 | h1; omega; (have := HPL.out q h1; omega)))
  have HF3 := hide ((HF2.out.trans f3).mono (Y := fun k => k = b ∨ k = gs ∨ pv.ownBlock = some k) (by intro k _ h1; rcases h1 with h1 | h1 | h1; exact h1.elim; exact .inl h1; exact .inr (.inr h1)))
  have x0 := HLG3.out.c0
  clear hd3 hp3 f3
  go_wp2_with fail
  refine (sync_any HD3.out (by have := wipes_len (cleanB B e) B first count; rw [List.length_append]; omega)).mono ?_
  rintro x W4 ⟨rfl, Cs', hd4, f4⟩
  have HD4 := hide hd4
  have HLG4 := hide (HLG3.out.fr f4 (by rintro (h1 | h1) <;> omega))
  have HRS4 := hide (HRS3.out.fr f4 (fun k h1 => by rcases h1 with h1 | h1 <;> omega))
  have HOT4 := hide (HOT3.out.fr f4 (fun q hq h1 => by have := (HAP.out q hq).1; rcases h1 with h1 | h1 <;> omega))
  have HF4 := hide ((HF3.out.trans f4).mono (Y := fun k => k = b ∨ k = gs ∨ pv.ownBlock = some k) (by intro k _ h1; rcases h1 with h1 | h1 | h1; exact h1; exact .inr (.inl h1); exact .inl h1))
  clear hd4 f4 x0
  go_wp2
  go_ret3
  have hg2 := HG.out
  refine ⟨v, M, e, s, g, ta, tc, Cs', rfl, ?_⟩
  rw [← HB.out]
  refine ⟨HTK.out, HRN.out, HRS4.out.low (by omega), HLG4.out, HOT4.out, HD4.out, by omega, fun h1 => by have := HRS.out.fresh g h1; omega, fun q hq => ?_, HF4.out⟩
  have h1 := HAP.out q hq
  exact ⟨by omega, h1.2, by omega⟩
end Go.Proofs.Ytpjelmlbikmddaa
