/- What lies behind the log is wiped out. -/
import Derived.Test.YtpjelmlbikmddaaCp
namespace Go.Proofs.Ytpjelmlbikmddaa
open Go.RowKit
set_option maxRecDepth 100000
set_option linter.unusedVariables false

def chunk (X : List UInt8) (k : Nat) : List UInt8 := (X.drop (k * 256)).take 256
/-- The writes that make sectors of one text those of another. -/
def wipes (C B : List UInt8) (first : Nat) : Nat → List (Nat × List UInt8)
  | 0 => []
  | k + 1 => wipes C B first k ++ (if chunk C k = chunk B k then [] else [(first + k, chunk C k)])
theorem wipes_len (C B : List UInt8) (first : Nat) : ∀ k, (wipes C B first k).length ≤ k
  | 0 => by simp [wipes]
  | k + 1 => by
    have := wipes_len C B first k
    rw [wipes, List.length_append]
    split <;> simp <;> omega
/-- The log's bytes and noughts. -/
def cleanB (B : List UInt8) (dur : Nat) : List UInt8 := over (zeros B.length) 0 ((B.take dur).take B.length)
theorem bi_range {w : World} {g : Nat} {l : List UInt8} (h : w.heap[g]? = some (.cells (enc l).toArray 5 (0, 0))) : ∀ k m, k + m ≤ l.length → w.rangeAt g (0 + k) (enc ((l.drop k).take m)) := by
  intro k m hkm j v hv
  rw [cell_of_row _ _ _ _ _ _ h]
  simp only [enc, List.getElem?_map, List.getElem?_toArray] at hv ⊢
  rw [List.getElem?_take] at hv
  split at hv
  · rw [List.getElem?_drop] at hv
    rw [show 0 + k + j = k + j by omega]
    exact hv
  · cases hv

set_option maxRecDepth 100000 in
set_option maxHeartbeats 3000000 in
theorem wipe_any {w : World} {b gs cs : Nat} {Cs : Array Value} {pv : Value} {S : List (List UInt8)} {L : List (Nat × List UInt8)} (h : DiskIs w b gs cs Cs pv S L)
    {g first count : Nat} {ta : Option Addr} {tn tc dur sum : Nat} (hl : LogAt w g b first count ta tn tc dur sum) (fa : Option Addr) (fn fc : Nat) (B : List UInt8) (hb : BI w fa fn B) (hnc : fn ≤ fc) (hfn : fn = count * 256) (hd : dur ≤ fn) (hc1 : 1 ≤ count)
    (hfc : first + count ≤ S.length) (hS4 : S.length ≤ 4096) (hL : L.length ≤ 1048576) (hgb : g ≠ b) (hpg0 : pv.ownBlock ≠ some g) (hfb : ∀ q off, fa = some ⟨q, off, none⟩ → q ≠ b ∧ pv.ownBlock ≠ some q) :
    Calls Try.prog 44 #[.pointer (some ⟨g, 0, none⟩), .slice fa fn fc] w fun e w' => e = .returned (.tuple #[]) ∧ ∃ pv', DiskIs w' b gs cs Cs pv' S (L ++ wipes (cleanB B dur) B first count) ∧ (pv'.ownBlock = pv.ownBlock ∨ ∃ k, pv'.ownBlock = some k ∧ w.heap.size ≤ k) ∧ Fr w w' (fun k => k = b ∨ pv.ownBlock = some k) := by
  have hgl : g < w.heap.size := World.block_lt_of_cell? w _ hl.c0
  have hbl : b < w.heap.size := by
    rcases Nat.lt_or_ge b w.heap.size with h1 | h1
    · exact h1
    · have := h.here; rw [Array.getElem?_eq_none h1] at this; cases this
  have hln : B.length = fn := hb.1
  obtain ⟨gf, off, rfl, _⟩ := hb.2.resolve_left (by omega)
  obtain ⟨hfb1, hfb2⟩ := hfb gf off rfl
  obtain ⟨a1, hr1, hb1⟩ := run_head (some ⟨gf, off, none⟩) fn fc dur hd hnc
  have HR1 := hide hr1
  have FA := Fr.alloc w (.cells (enc (zeros fn)).toArray 5) (fun _ => False)
  have HFA := hide FA
  have HB0 := hide (hb.fr FA (fun _ _ _ _ h => h))
  have HB1 := hide (hb1 _ _ (hb.fr FA (fun _ _ _ _ h => h)))
  have HL0 := hide (hl.fr FA (fun h => h))
  have HD0 := hide (h.kept FA)
  have HPL := hide (fun q (hq : pv.ownBlock = some q) => (h.pend.lt q hq).2)
  have Hh := hide h
  have Hl := hide hl
  have Hb := hide hb
  have HNEW := hide (heap_alloc_new w (.cells (enc (zeros fn)).toArray 5))
  have hmk := run_madeN fn (by omega)
  have c4 := HL0.out.c4
  have hfa : fn ≤ count * 256 := by omega
  have hfe : count * 256 ≤ fn := by omega
  have HFN := hide hfn
  clear h hl hb hfb hr1 hb1 FA hfn
  go_enter Try.func44, Try.ntmps44
  go_wp2_with (first | refine wpList_val rfl 17 rfl (.slice a1 dur fc) _ (exec_to (.tmp 12) (.tmp 16) rfl rfl rfl HR1.out) ?_ | (refine wpList_copyB rfl (.tmp 11) (.tmp 17) rfl rfl (some ⟨w.heap.size, 0, none⟩) fn fn a1 dur fc rfl rfl w.heap.size 0 (zeros fn) (B.take dur) HNEW.out (fun _ => rfl) HB1.out (by rw [length_zeros]; omega) ?_; intro W1 z1 q1 q2 q3; have HF1 := hide ((HFA.out.trans q2.out).mono (Y := fun _ => False) (by intro k hk h1; rcases h1 with h1 | h1; exact h1; omega)); have HL1 := hide (Hl.out.fr HF1.out (fun h => h)); have c2 := HL1.out.c2))
  have hCe : over (zeros fn) 0 ((B.take dur).take fn) = cleanB B dur := by rw [cleanB, hln]
  obtain ⟨C, hC⟩ : ∃ C, C = cleanB B dur := ⟨_, rfl⟩
  have HC := hide hC
  rw [hCe, ← hC] at q1
  have hCl : C.length = fn := by rw [hC, ← hCe, length_over _ _ _ (by simp [length_zeros]; omega), length_zeros]
  obtain ⟨g4, hg4⟩ : ∃ g4, g4 = w.heap.size := ⟨_, rfl⟩
  rw [← hg4] at q1 q2 ⊢
  have hg4n : w.heap.size ≤ g4 := by omega
  have hsz1 : g4 < W1.heap.size := by rw [q3.out]; simp; omega
  have HQ := hide q1.out
  have HD1 := hide (Hh.out.kept HF1.out)
  have HBI1 := hide (Hb.out.fr HF1.out (fun _ _ _ _ h => h))
  have hp4 : pv.ownBlock ≠ some g4 := fun h => by have := HPL.out g4 h; omega
  have HBC0 := hide (BI.block HQ.out fn hCl)
  clear q1 q2 q3 hC hCe hg4 c4 c2 HB0 HB1 HL0 HD0 HNEW hmk
  go_loopw [24] (fun i wr => ∃ (k : Nat) (pv' : Value), k ≤ count ∧ i = .int .i64 k ∧ DiskIs wr b gs cs Cs pv' S (L ++ wipes C B first k) ∧ (pv'.ownBlock = pv.ownBlock ∨ ∃ q, pv'.ownBlock = some q ∧ W1.heap.size ≤ q) ∧ Fr W1 wr (fun q => q = b ∨ pv.ownBlock = some q)) (fun i _ => count - (intOf i).toNat)
  case atStart => exact ⟨0, pv, by omega, rfl, by simpa [wipes] using HD1.out, .inl rfl, Fr.refl _ _⟩
  case round =>
    rename World => W
    obtain ⟨k, pv', hk, rfl, hd', hpv, hf⟩ := hrel
    have HD' := hide hd'
    have HPV := hide hpv
    have HF := hide hf
    clear hd' hpv hf
    by_cases hlt : k < count
    · have FD : Fr W1 W.drew (fun q => q = b ∨ pv.ownBlock = some q) := (HF.out.trans (Fr.drew W (fun _ => False))).mono (by intro q _ h1; rcases h1 with h1 | h1; exact h1; exact h1.elim)
      have hbg4 : ¬ (g4 = b ∨ pv.ownBlock = some g4) := by rintro (h1 | h1); omega; exact hp4 h1
      have HBC := hide (fun V (hV : Fr W1 V (fun q => q = b ∨ pv.ownBlock = some q)) => show BI V (some ⟨g4, 0 + k * 256, none⟩) 256 (chunk C k) from (HBC0.out.fr hV (fun q o h1 _ h2 => by simp only [Option.some.injEq, Addr.mk.injEq, and_true] at h1; rw [← h1.1] at h2; exact hbg4 h2)).cut (k * 256) 256 (by omega) g4 0 rfl)
      have HBF := hide (fun V (hV : Fr W1 V (fun q => q = b ∨ pv.ownBlock = some q)) => show BI V (some ⟨gf, off + k * 256, none⟩) 256 (chunk B k) from (HBI1.out.fr hV (fun q o h1 _ h2 => by simp only [Option.some.injEq, Addr.mk.injEq, and_true] at h1; rw [← h1.1] at h2; rcases h2 with h2 | h2; exact hfb1 h2; exact hfb2 h2)).cut (k * 256) 256 (by omega) gf off rfl)
      have HLG := hide (fun V (hV : Fr W1 V (fun q => q = b ∨ pv.ownBlock = some q)) => HL1.out.fr hV (show ¬ (g = b ∨ pv.ownBlock = some g) by rintro (h1 | h1); exact hgb h1; exact hpg0 h1))
      have HRG := hide (fun V (hV : Fr W1 V (fun q => q = b ∨ pv.ownBlock = some q)) => rangeAt_fr (bi_range HQ.out (k * 256) 256 (by omega)) hV hbg4)
      have hck : (chunk C k).length = 256 := by unfold chunk; rw [List.length_take, List.length_drop]; omega
      have wk1 : IntKind.i64.wrap ((k : Int) * 256) = (k : Int) * 256 := by rw [IntKind.wrap_i64]; omega
      have wk2 : IntKind.i64.wrap (((k : Int) + 1) * 256) = ((k : Int) + 1) * 256 := by rw [IntKind.wrap_i64]; omega
      have hS : True := trivial
      go_wp2_with fail
      refine wp_region_K (fun _ => true) (fun V => True) (by kernel_rfl) ?_
      refine wpAnyK_takeTo 0 (some 32) (.slice (some ⟨g4, 0, none⟩) fn fn) [] rfl rfl (by kernel_rfl) (by kernel_rfl) (by kernel_rfl) (by kernel_rfl) (fun _ _ _ h => h) hS (Or.inl ⟨rfl, fun w1 hw1 => by go_simp⟩) ?_
      simp only [Act.put, List.setIfInBounds_toArray, List.set_cons_zero, List.set_cons_succ]
      refine wpAnyK_takeTo 1 (some 33) (.int .i64 ((k : Int) * 256)) [] rfl rfl (by kernel_rfl) (by kernel_rfl) (by kernel_rfl) (by kernel_rfl) (fun _ _ _ h => h) hS (Or.inl ⟨rfl, fun w1 hw1 => by go_simp⟩) ?_
      simp only [Act.put, List.setIfInBounds_toArray, List.set_cons_zero, List.set_cons_succ]
      refine wpAnyK_takeTo 2 (some 34) (.int .i64 (((k : Int) + 1) * 256)) [] rfl rfl (by kernel_rfl) (by kernel_rfl) (by kernel_rfl) (by kernel_rfl) (fun _ _ _ h => h) hS (Or.inl ⟨rfl, fun w1 hw1 => by go_simp⟩) ?_
      simp only [Act.put, List.setIfInBounds_toArray, List.set_cons_zero, List.set_cons_succ]
      refine wpAnyK_takeTo 3 (some 35) (.slice (some ⟨g4, 0 + k * 256, none⟩) 256 (fn - k * 256)) [] rfl rfl (by kernel_rfl) (by kernel_rfl) (by kernel_rfl) (by kernel_rfl) (fun _ _ _ h => h) hS (Or.inl ⟨rfl, fun w1 hw1 => exec_cut (.tmp 32) (.tmp 33) (.tmp 34) rfl g4 0 fn fn (k * 256) 256 ((k : Int) * 256) (((k : Int) + 1) * 256) rfl rfl rfl (by omega) (by omega) (by omega) (by omega) _⟩) ?_
      simp only [Act.put, List.setIfInBounds_toArray, List.set_cons_zero, List.set_cons_succ]
      refine wpAnyK_takeTo 4 (some 36) (.slice (some ⟨gf, off, none⟩) fn fc) [] rfl rfl (by kernel_rfl) (by kernel_rfl) (by kernel_rfl) (by kernel_rfl) (fun _ _ _ h => h) hS (Or.inl ⟨rfl, fun w1 hw1 => by go_simp⟩) ?_
      simp only [Act.put, List.setIfInBounds_toArray, List.set_cons_zero, List.set_cons_succ]
      refine wpAnyK_takeTo 5 (some 37) (.int .i64 ((k : Int) * 256)) [] rfl rfl (by kernel_rfl) (by kernel_rfl) (by kernel_rfl) (by kernel_rfl) (fun _ _ _ h => h) hS (Or.inl ⟨rfl, fun w1 hw1 => by go_simp⟩) ?_
      simp only [Act.put, List.setIfInBounds_toArray, List.set_cons_zero, List.set_cons_succ]
      refine wpAnyK_takeTo 6 (some 38) (.int .i64 (((k : Int) + 1) * 256)) [] rfl rfl (by kernel_rfl) (by kernel_rfl) (by kernel_rfl) (by kernel_rfl) (fun _ _ _ h => h) hS (Or.inl ⟨rfl, fun w1 hw1 => by go_simp⟩) ?_
      simp only [Act.put, List.setIfInBounds_toArray, List.set_cons_zero, List.set_cons_succ]
      refine wpAnyK_takeTo 7 (some 39) (.slice (some ⟨gf, off + k * 256, none⟩) 256 (fc - k * 256)) [] rfl rfl (by kernel_rfl) (by kernel_rfl) (by kernel_rfl) (by kernel_rfl) (fun _ _ _ h => h) hS (Or.inl ⟨rfl, fun w1 hw1 => exec_cut (.tmp 36) (.tmp 37) (.tmp 38) rfl gf off fn fc (k * 256) 256 ((k : Int) * 256) (((k : Int) + 1) * 256) rfl rfl rfl (by omega) (by omega) (by omega) (by omega) _⟩) ?_
      simp only [Act.put, List.setIfInBounds_toArray, List.set_cons_zero, List.set_cons_succ]
      refine wpAnyK_one (i := 8) (by kernel_rfl) rfl rfl ?_
      refine wp_call_to (some 40) rfl 57 #[.slice (some ⟨g4, 0 + k * 256, none⟩) 256 (fn - k * 256), .slice (some ⟨gf, off + k * 256, none⟩) 256 (fc - k * 256)] (by go_simp) (equal_any _ _ _ _ 256 (chunk C k) (chunk B k) W.drew (HBC.out W.drew FD) (HBF.out W.drew FD) (by omega)) ?_
      rintro x V1 ⟨rfl, q1⟩
      have hS : True := trivial
      refine ⟨_, rfl, fun _ => hS, ?_⟩
      simp only [Act.put, List.setIfInBounds_toArray, List.set_cons_zero, List.set_cons_succ]
      refine wpAnyK_takeTo 9 (some 41) (.bool (!decide (chunk C k = chunk B k))) [] rfl rfl (by kernel_rfl) (by kernel_rfl) (by kernel_rfl) (by kernel_rfl) (fun _ _ _ h => h) hS (Or.inl ⟨rfl, fun w1 hw1 => by go_simp⟩) ?_
      simp only [Act.put, List.setIfInBounds_toArray, List.set_cons_zero, List.set_cons_succ]
      refine wpAnyK_done (by kernel_rfl) ?_ _
      have HFV := hide ((FD.trans q1).mono (Y := fun q => q = b ∨ pv.ownBlock = some q) (by intro q _ h1; rcases h1 with h1 | h1; exact h1; exact h1.elim))
      have HD2 := hide ((HD'.out.kept (Fr.drew W (fun _ => False))).kept q1)
      clear q1 FD
      by_cases hcc : chunk C k = chunk B k
      · have hdc : decide (chunk C k = chunk B k) = true := decide_eq_true hcc
        rw [hdc]
        have HW := hide (show wipes C B first (k + 1) = wipes C B first k by rw [wipes, if_pos hcc, List.append_nil])
        clear hdc hcc
        go_wp2
        go_roundw
        case rel => exact ⟨k + 1, pv', by omega, by go_num, by rw [HW.out]; exact HD2.out, HPV.out, HFV.out⟩
        case measure => simp [intOf]; omega
      · have hdc : decide (chunk C k = chunk B k) = false := decide_eq_false hcc
        rw [hdc]
        have HW := hide (show wipes C B first (k + 1) = wipes C B first k ++ [(first + k, chunk C k)] by rw [wipes, if_neg hcc])
        clear hdc hcc
        have hLk : (L ++ wipes C B first k).length ≤ 268435456 := by have := wipes_len C B first k; rw [List.length_append]; omega
        have hp4' : pv'.ownBlock ≠ some g4 := fun h1 => by
          rcases HPV.out with h2 | ⟨q, h2, h3⟩
          · rw [h2] at h1; exact hp4 h1
          · rw [h2] at h1; have := Option.some.inj h1; omega
        have hpg : pv'.ownBlock ≠ some g := fun h1 => by
          rcases HPV.out with h2 | ⟨q, h2, h3⟩
          · rw [h2] at h1; exact hpg0 h1
          · rw [h2] at h1; have := Option.some.inj h1; omega
        go_wp2_with fail
        have FD2 := Fr.drew V1 (fun _ => False)
        have FE2 : Fr W1 V1.drew (fun q => q = b ∨ pv.ownBlock = some q) := (HFV.out.trans FD2).mono (by intro q _ h1; rcases h1 with h1 | h1; exact h1; exact h1.elim)
        refine wp_region_K (fun _ => true) (fun V => True) (by kernel_rfl) ?_
        refine wpAnyK_takeTo 0 (some 42) (.pointer (some ⟨g, 0, none⟩)) [] rfl rfl (by kernel_rfl) (by kernel_rfl) (by kernel_rfl) (by kernel_rfl) (fun _ _ _ h => h) hS (Or.inl ⟨rfl, fun w1 hw1 => by go_simp⟩) ?_
        simp only [Act.put, List.setIfInBounds_toArray, List.set_cons_zero, List.set_cons_succ]
        refine wpAnyK_takeTo 1 (some 43) (.pointer (some ⟨g, 0, none⟩)) [] rfl rfl (by kernel_rfl) (by kernel_rfl) (by kernel_rfl) (by kernel_rfl) (fun _ _ _ h => h) hS (Or.inl ⟨rfl, fun w1 hw1 => by go_simp⟩) ?_
        simp only [Act.put, List.setIfInBounds_toArray, List.set_cons_zero, List.set_cons_succ]
        refine wpAnyK_takeTo 2 (some 44) (.pointer (some ⟨g, 0, none⟩)) [] rfl rfl (by kernel_rfl) (by kernel_rfl) (by kernel_rfl) (by kernel_rfl) (fun _ _ _ h => h) hS (Or.inl ⟨rfl, fun w1 hw1 => by go_simp⟩) ?_
        simp only [Act.put, List.setIfInBounds_toArray, List.set_cons_zero, List.set_cons_succ]
        refine wpAnyK_takeTo 3 (some 45) (.int .i64 (k : Int)) [] rfl rfl (by kernel_rfl) (by kernel_rfl) (by kernel_rfl) (by kernel_rfl) (fun _ _ _ h => h) hS (Or.inl ⟨rfl, fun w1 hw1 => by go_simp⟩) ?_
        simp only [Act.put, List.setIfInBounds_toArray, List.set_cons_zero, List.set_cons_succ]
        refine wpAnyK_takeTo 4 (some 46) (.slice (some ⟨g4, 0, none⟩) fn fn) [] rfl rfl (by kernel_rfl) (by kernel_rfl) (by kernel_rfl) (by kernel_rfl) (fun _ _ _ h => h) hS (Or.inl ⟨rfl, fun w1 hw1 => by go_simp⟩) ?_
        simp only [Act.put, List.setIfInBounds_toArray, List.set_cons_zero, List.set_cons_succ]
        refine wpAnyK_takeTo 5 (some 47) (.int .i64 ((k : Int) * 256)) [] rfl rfl (by kernel_rfl) (by kernel_rfl) (by kernel_rfl) (by kernel_rfl) (fun _ _ _ h => h) hS (Or.inl ⟨rfl, fun w1 hw1 => by go_simp⟩) ?_
        simp only [Act.put, List.setIfInBounds_toArray, List.set_cons_zero, List.set_cons_succ]
        refine wpAnyK_takeTo 6 (some 48) (.int .i64 (((k : Int) + 1) * 256)) [] rfl rfl (by kernel_rfl) (by kernel_rfl) (by kernel_rfl) (by kernel_rfl) (fun _ _ _ h => h) hS (Or.inl ⟨rfl, fun w1 hw1 => by go_simp⟩) ?_
        simp only [Act.put, List.setIfInBounds_toArray, List.set_cons_zero, List.set_cons_succ]
        refine wpAnyK_takeTo 7 (some 49) (.slice (some ⟨g4, 0 + k * 256, none⟩) 256 (fn - k * 256)) [] rfl rfl (by kernel_rfl) (by kernel_rfl) (by kernel_rfl) (by kernel_rfl) (fun _ _ _ h => h) hS (Or.inl ⟨rfl, fun w1 hw1 => exec_cut (.tmp 46) (.tmp 47) (.tmp 48) rfl g4 0 fn fn (k * 256) 256 ((k : Int) * 256) (((k : Int) + 1) * 256) rfl rfl rfl (by omega) (by omega) (by omega) (by omega) _⟩) ?_
        simp only [Act.put, List.setIfInBounds_toArray, List.set_cons_zero, List.set_cons_succ]
        refine wpAnyK_one (i := 8) (by kernel_rfl) rfl rfl ?_
        refine wp_call_to (some 50) rfl 58 #[.pointer (some ⟨g, 0, none⟩), .int .i64 (k : Int), .slice (some ⟨g4, 0 + k * 256, none⟩) 256 (fn - k * 256)] (by go_simp) (rwrite_any (HD2.out.kept FD2) hLk g first k (HLG.out _ FE2).c0 (HLG.out _ FE2).c1 (by omega) hS4 g4 (0 + k * 256) (fn - k * 256) (chunk C k) hck (HRG.out _ FE2) hp4' hgb hpg) ?_
        rintro x V2 ⟨rfl, pv2, hd2, hf2, q2⟩
        have hS : True := trivial
        refine ⟨_, rfl, fun _ => hS, ?_⟩
        simp only [Act.put, List.setIfInBounds_toArray, List.set_cons_zero, List.set_cons_succ]
        refine wpAnyK_done (by kernel_rfl) ?_ _
        have HD3 := hide hd2
        have HF3 := hide ((FE2.trans q2).mono (Y := fun q => q = b ∨ pv.ownBlock = some q) (by
          intro q hq h1
          rcases h1 with h1 | h1 | h1
          · exact h1
          · exact .inl h1
          · rcases HPV.out with h2 | ⟨q', h2, h3⟩
            · rw [h2] at h1; exact .inr h1
            · rw [h2] at h1; have := Option.some.inj h1; omega))
        have HP3 : Hid (pv2.ownBlock = pv.ownBlock ∨ ∃ q, pv2.ownBlock = some q ∧ W1.heap.size ≤ q) := by
          rcases hf2 with h1 | ⟨q, h1, h2⟩
          · rcases HPV.out with h3 | ⟨q', h3, h4⟩
            · exact .inl (h1.trans h3)
            · exact .inr ⟨q', h1.trans h3, h4⟩
          · exact .inr ⟨q, h1, by have := FE2.size; omega⟩
        clear hd2 hf2 q2 FD2 FE2
        go_wp2
        go_roundw
        case rel => exact ⟨k + 1, pv2, by omega, by go_num, by rw [HW.out, ← List.append_assoc]; exact HD3.out, HP3.out, HF3.out⟩
        case measure => simp [intOf]; omega
    · obtain rfl : k = count := by omega
      go_wp2
      go_end0
      have hww := HF1.out.size
      refine ⟨rfl, pv', by rw [← HC.out]; exact HD'.out, ?_, (HF1.out.trans HF.out).mono (by intro q _ h1; rcases h1 with h1 | h1; exact h1.elim; exact h1)⟩
      rcases HPV.out with h1 | ⟨q, h1, h2⟩
      · exact .inl h1
      · exact .inr ⟨q, h1, by omega⟩
end Go.Proofs.Ytpjelmlbikmddaa
