/- The walk of Tokens. -/
import Derived.Test.YtackfnojafinpaaDoorI
import Derived.Laws.EntriesVeiled
namespace Go.Proofs.YtackfnojafinpaaDoor
open Go.RowKit
set_option linter.unusedVariables false

theorem info26 : (Tryd.prog.info? 26).map (·.size) = some 2 := by kernel_rfl
theorem results_fault {fn : Func} {p q : Tmp} (h : fn.results = #[.tmp q, .cell p 26]) (tmps : Array Value) (w : World) (g : Nat) {x0 x1 : Value} (ht : Two w g x0 x1) (hp : tmps.getD p undef = .pointer (some ⟨g, 0, none⟩)) :
    (results fn tmps).run Tryd.prog w = .ok (.tuple #[tmps.getD q undef, .agg #[x0, x1]]) w := by
  have hp' : tmps[p]?.getD undef = .pointer (some ⟨g, 0, none⟩) := by simpa using hp
  simp [results, h, hp', asAddr, run_loadVar_mid (P := Tryd.prog) w g 0 26 [x0, x1] _ ht.range Tryd.underlying26 rfl info26]
/-- What Tokens answers for a text that isn't too long. -/
def TokPost (w : World) (s : ByteArray) (e : Ending) (w' : World) : Prop :=
  (∃ T v, Lex 0 s.data.toList (.ok T) ∧ e = .returned (.tuple #[v, .agg #[.int .i64 0, .int .i64 0]]) ∧ OwnT w' v T ∧ T.length ≤ s.size ∧ ∀ q, v.ownBlock = some q → w.heap.size ≤ q) ∨
  (∃ p : Nat, p < s.size ∧ Lex 0 s.data.toList (.bad p) ∧ e = .returned (.tuple #[.slice none 0 0, .agg #[.int .i64 140, .int .i64 p]]))
set_option maxHeartbeats 1000000 in
theorem tokens_long (s : ByteArray) (w : World) (hs : 4096 < s.size) (hm : s.size ≤ 4503599627370496) :
    Calls Tryd.prog 9 #[.string s] w fun e w' => e = .returned (.tuple #[.slice none 0 0, .agg #[.int .i64 2, .int .i64 4096]]) ∧ Fr w w' (fun _ => False) := by
  go_enter Tryd.func9, Tryd.ntmps9
  go_wp2
  go_step3
  go_wp2
  try rw [Exit.noGoto_ret]
  refine bodyPost_ret (v := .tuple #[.slice none 0 0, .agg #[.int .i64 2, .int .i64 4096]]) (by simp [results, Tryd.results9, go_sem]) rfl ⟨rfl, Fr.alloc _ _ _⟩
/-- The tokens so far. -/
structure TInv (s : ByteArray) (p : Nat) (T : List Tok) : Prop where
  le : p ≤ s.size
  len : T.length ≤ p
  lex : ∀ r, Lex p (s.data.toList.drop p) r → Lex 0 s.data.toList (r.pre T)
  gap : ∀ h : p < s.size, gapB s[p] = false
theorem pass_stop (s : ByteArray) (m : Nat) (h : passN gapB s m < s.size) : gapB s[passN gapB s m] = false := by
  rcases run_stop gapB (s.data.toList.drop m) with h1 | ⟨b, r, h1, hb⟩
  · rw [drop_pass, drop_byte s _ h] at h1; cases h1
  · rw [drop_pass, drop_byte s _ h] at h1
    rw [(List.cons.inj h1).1]; exact hb
theorem TInv.start (s : ByteArray) : TInv s (passN gapB s 0) [] := by
  refine ⟨passN_le _ _ _ (by omega), by simp, fun r hr => ?_, pass_stop s 0⟩
  rw [Res.pre_nil]
  refine Lex.gaps ?_
  have e := drop_pass gapB s 0
  rw [List.drop_zero] at e
  rw [e]
  simpa [passN] using hr
theorem TInv.next {s : ByteArray} {p : Nat} {T : List Tok} (h : TInv s p T) (hp : p < s.size) (x : Bit) (hx : oneR (s.data.toList.drop p) = some x) :
    TInv s (passN gapB s (p + x.len)) (T ++ [x.tok p]) ∧ p + x.len ≤ s.size ∧ 0 < x.len := by
  obtain ⟨h1, h2, h3⟩ := oneR_len hx
  have e : s.data.toList.length = s.size := rfl
  rw [List.length_drop, e] at h2
  refine ⟨⟨passN_le _ _ _ (by omega), ?_, fun r hr => ?_, pass_stop s _⟩, by omega, h1⟩
  · have := passN_ge gapB s (p + x.len)
    have := h.len
    simp; omega
  · rw [← Res.pre_cons]
    apply h.lex
    have hb := drop_byte s p hp
    rw [hb] at hx ⊢
    refine .tok (h.gap hp) hx ?_
    rw [← hb, List.drop_drop]
    refine Lex.gaps ?_
    rw [drop_pass]
    exact hr
theorem TInv.bad {s : ByteArray} {p : Nat} {T : List Tok} (h : TInv s p T) (hp : p < s.size) (hx : oneR (s.data.toList.drop p) = none) : Lex 0 s.data.toList (.bad p) := by
  have := h.lex (.bad p) (by
    rw [drop_byte s p hp] at hx ⊢
    exact .bad (h.gap hp) hx)
  exact this
theorem TInv.done {s : ByteArray} {p : Nat} {T : List Tok} (h : TInv s p T) (hp : ¬ p < s.size) : Lex 0 s.data.toList (.ok T) := by
  have := h.lex (.ok []) (by rw [drop_end s p (by omega)]; exact .nil _)
  simpa [Res.pre] using this
theorem index43 (k : Nat) (hk : k < 4) (W : World) : (Instr.index 43 (.agg #[.func (.func 14) #[] #[], .func (.func 15) #[] #[], .func (.func 16) #[] #[], .func (.func 17) #[] #[]]) (.int .i64 (k : Int))).run Tryd.prog W = .ok (.func (.func (14 + k)) #[] #[]) W := by
  obtain rfl | rfl | rfl | rfl : k = 0 ∨ k = 1 ∨ k = 2 ∨ k = 3 := by omega
  all_goals kernel_rfl
/-- The readers ahead of the one of this number have found nothing. -/
structure Failed (l : List UInt8) (k : Nat) : Prop where
  a : 0 < k → wordR l = none
  b : 1 < k → numR l = none
  c : 2 < k → quoteR l = none
  d : 3 < k → signR l = none
theorem Failed.all {l : List UInt8} (h : Failed l 4) : oneR l = none := by
  simp [oneR, h.a, h.b, h.c, h.d]
def readers : List (List UInt8 → Option Bit) := [wordR, numR, quoteR, signR]
def readerN (k : Nat) (l : List UInt8) : Option Bit := match k with
  | 0 => wordR l
  | 1 => numR l
  | 2 => quoteR l
  | _ => signR l
theorem Failed.next {l : List UInt8} {k : Nat} (h : Failed l k) (hk : k < 4) (hn : readerN k l = none) : Failed l (k + 1) := by
  obtain rfl | rfl | rfl | rfl : k = 0 ∨ k = 1 ∨ k = 2 ∨ k = 3 := by omega
  · exact ⟨fun _ => hn, fun h => by omega, fun h => by omega, fun h => by omega⟩
  · exact ⟨fun _ => h.a (by omega), fun _ => hn, fun h => by omega, fun h => by omega⟩
  · exact ⟨fun _ => h.a (by omega), fun _ => h.b (by omega), fun _ => hn, fun h => by omega⟩
  · exact ⟨fun _ => h.a (by omega), fun _ => h.b (by omega), fun _ => h.c (by omega), fun _ => hn⟩
theorem Failed.found {l : List UInt8} {k : Nat} (h : Failed l k) (hk : k < 4) {x : Bit} (hx : readerN k l = some x) : oneR l = some x := by
  obtain rfl | rfl | rfl | rfl : k = 0 ∨ k = 1 ∨ k = 2 ∨ k = 3 := by omega
  · have hx : wordR l = some x := hx
    simp [oneR, hx]
  · have hx : numR l = some x := hx
    simp [oneR, h.a, hx]
  · have hx : quoteR l = some x := hx
    simp [oneR, h.a, h.b, hx]
  · have hx : signR l = some x := hx
    simp [oneR, h.a, h.b, h.c, hx]
theorem reader_any (k : Nat) (hk : k < 4) (s : ByteArray) (m : Nat) (w : World) (hs : s.size ≤ 4096) (hm : m < s.size) (he : Errs w) :
    Calls Tryd.prog (14 + k) #[.string s, .int .i64 m] w fun e w' => Reads (readerN k (s.data.toList.drop m)) m e ∧ Fr w w' (fun _ => False) := by
  obtain rfl | rfl | rfl | rfl : k = 0 ∨ k = 1 ∨ k = 2 ∨ k = 3 := by omega
  · exact word_reads s m w hs hm
  · exact number_any s m w hs hm he
  · exact quoted_reads s m w hs hm
  · exact sign_reads s m w hs hm
set_option maxRecDepth 100000 in
set_option maxHeartbeats 3000000 in
theorem tokens_short (s : ByteArray) (w : World) (hs : s.size ≤ 4096) (he : Errs w) :
    Calls Tryd.prog 9 #[.string s] w fun e w' => TokPost w s e w' ∧ Fr w w' (fun _ => False) := by
  have hp0 : ∀ w, Calls Tryd.prog 18 #[.string s, .int .i64 0, .func (.func 19) #[] #[]] w fun e w' => e = .returned (.int .i64 (passN gapB s 0)) ∧ w' = w := fun w => pass_gap s 0 w (by omega) (by omega)
  have HE := hide he
  clear he
  go_enter Tryd.func9, Tryd.ntmps9
  go_wp2
  go_step3
  go_wp2_with (go_at_call 18; refine (hp0 _).mono ?_; rintro e w' ⟨rfl, rfl⟩)
  go_step3
  go_wp2
  have HG := hide ((two_of (heap_alloc_new w (.cells #[.int .i64 0, .int .i64 0] 26))).fr (Fr.alloc _ (.cells #[.func (.func 14) #[] #[], .func (.func 15) #[] #[], .func (.func 16) #[] #[], .func (.func 17) #[] #[]] 43) (fun _ => False)) (fun h => h))
  have HU := hide (up_two (w := w) (o1 := .cells #[.int .i64 0, .int .i64 0] 26) (o2 := .cells #[.func (.func 14) #[] #[], .func (.func 15) #[] #[], .func (.func 16) #[] #[], .func (.func 17) #[] #[]] 43))
  have HRD := hide (four_of (by have := heap_alloc_new (w.alloc (.cells #[.int .i64 0, .int .i64 0] 26)) (.cells #[.func (.func 14) #[] #[], .func (.func 15) #[] #[], .func (.func 16) #[] #[], .func (.func 17) #[] #[]] 43); simpa using this : ((w.alloc (.cells #[.int .i64 0, .int .i64 0] 26)).alloc (.cells #[.func (.func 14) #[] #[], .func (.func 15) #[] #[], .func (.func 16) #[] #[], .func (.func 17) #[] #[]] 43)).heap[w.heap.size + 1]? = some (.cells #[.func (.func 14) #[] #[], .func (.func 15) #[] #[], .func (.func 16) #[] #[], .func (.func 17) #[] #[]] 43 (0, 0))))
  generalize hW0 : (w.alloc (.cells #[.int .i64 0, .int .i64 0] 26)).alloc (.cells #[.func (.func 14) #[] #[], .func (.func 15) #[] #[], .func (.func 16) #[] #[], .func (.func 17) #[] #[]] 43) = W0 at *
  have HSZ := hide (show W0.heap.size = w.heap.size + 2 by rw [← hW0]; simp)
  clear hW0
  generalize hbn : w.heap.size + 1 = b at *
  have HBN := hide hbn
  clear hbn hp0
  go_loopw [5, 6] (fun x i wr => ∃ (p : Nat) (T : List Tok), i = .int .i64 p ∧ TInv s p T ∧ OwnT wr x T ∧ Fr W0 wr (fun _ => False) ∧ ∀ q, x.ownBlock = some q → W0.heap.size ≤ q) (fun _ i _ => s.size - (intOf i).toNat)
  case atStart => exact ⟨passN gapB s 0, [], rfl, TInv.start s, OwnT.nil _, Fr.refl _ _, by simp [Value.ownBlock]⟩
  case round =>
    rename World => W
    obtain ⟨p, T, rfl, hti, hot, hfw, hxo⟩ := hrel
    have HTI := hide hti
    have HOT := hide hot
    have HFW := hide hfw
    have HX := hide hxo
    have HGW := hide (HG.out.fr hfw (fun h => h))
    have HRW := hide (HRD.out.fr hfw (fun h => h))
    have HF0 := hide ((HU.out.trans hfw).mono (Y := fun _ => False) (by simp))
    have HEW := hide (HE.out.fr HF0.out (fun h => h))
    have hple := hti.le
    clear hti hot hfw hxo
    by_cases hlt : p < s.size
    · have r0 := HRW.out.c0
      have r1 := HRW.out.c1
      have r2 := HRW.out.c2
      have r3 := HRW.out.c3
      go_wp2
      go_loopw [5, 6, 23] (fun x y i wr => ∃ k : Nat, k ≤ 4 ∧ x = u5 ∧ y = .int .i64 p ∧ i = .int .i64 k ∧ Failed (s.data.toList.drop p) k ∧ Fr W wr (fun _ => False)) (fun _ _ i _ => 4 - (intOf i).toNat)
      case atStart => exact ⟨0, by omega, rfl, rfl, rfl, ⟨fun h => by omega, fun h => by omega, fun h => by omega, fun h => by omega⟩, Fr.refl _ _⟩
      case round =>
        rename World => V
        obtain ⟨k, hk, rfl, rfl, rfl, hfd, hfv⟩ := hrel
        have HFD := hide hfd
        have HFV := hide hfv
        have HEV := hide (HEW.out.fr hfv (fun h => h))
        have HOV := hide (HOT.out.fr hfv (fun _ _ h => h))
        have HGV := hide (HGW.out.fr hfv (fun h => h))
        clear hfd hfv
        clear r0 r1 r2 r3
        by_cases hk4 : k < 4
        · obtain rfl | rfl | rfl | rfl : k = 0 ∨ k = 1 ∨ k = 2 ∨ k = 3 := by omega
          · -- reader 0
            have hix : ∀ W, (Instr.index 43 (.agg #[.func (.func 14) #[] #[], .func (.func 15) #[] #[], .func (.func 16) #[] #[], .func (.func 17) #[] #[]]) (.int .i64 0)).run Tryd.prog W = .ok (.func (.func 14) #[] #[]) W := fun W => index43 0 (by omega) W
            have hrd := reader_any 0 (by omega) s p V hs hlt HEV.out
            cases hR : readerN 0 (s.data.toList.drop p) with
            | none =>
              have HFN := hide (HFD.out.next (by omega) hR)
              rw [hR] at hrd
              clear hR
              have hrd : Calls Tryd.prog 14 #[.string s, .int .i64 p] V fun e w' => (∃ t : Tok, e = .returned (.tuple #[.agg #[.int .i64 t.kind, .string (strOf t.text), .int .i64 t.num, .int .i64 t.pos], .int .i64 p])) ∧ Fr V w' (fun _ => False) := hrd
              go_wp2_with (go_at_call 14; refine hrd.mono ?_; rintro e V2 ⟨⟨t, rfl⟩, hf2⟩; have HF2 := hide hf2; clear hf2 hrd)
              go_roundw
              case rel => exact ⟨1, by omega, rfl, rfl, rfl, HFN.out, (((HFV.out.trans HF2.out).trans (Fr.alloc _ _ (fun _ => False))).mono (by simp))⟩
              case measure => simp [intOf]
            | some x =>
              obtain ⟨ht2, hq2, hx0⟩ := HTI.out.next hlt x (HFD.out.found (by omega) hR)
              rw [hR] at hrd
              clear hR
              obtain ⟨kd, tx, nm, ln⟩ := x
              have hrd : Calls Tryd.prog 14 #[.string s, .int .i64 p] V fun e w' => e = .returned (.tuple #[.agg #[.int .i64 kd, .string (strOf tx), .int .i64 nm, .int .i64 p], .int .i64 (p + ln : Nat)]) ∧ Fr V w' (fun _ => False) := hrd
              have ht2 : TInv s (passN gapB s (p + ln)) (T ++ [⟨kd, tx, nm, p⟩]) := ht2
              have hq2 : p + ln ≤ s.size := hq2
              have hx0 : 0 < ln := hx0
              have hq1 : p < p + ln := by omega
              have hgp := fun w => pass_gap s (p + ln) w (by omega) hq2
              have hge := passN_ge gapB s (p + ln)
              have HT2 := hide ht2
              have hlenT := HTI.out.len
              clear ht2 hx0
              generalize p + ln = q at *
              generalize passN gapB s q = q2 at *
              go_wp2_with (first | (go_at_call 14; refine hrd.mono ?_; rintro e V2 ⟨rfl, hf2⟩; have HF2 := hide hf2; have HO2 := hide ((HOV.out.fr hf2 (fun _ _ h => h)).fr (Fr.alloc V2 (.cells #[.int .i64 kd, .string (strOf tx), .int .i64 nm, .int .i64 p] 36) (fun _ => False)) (fun _ _ h => h)); clear hf2 hrd) | (go_at_call 18; refine (hgp _).mono ?_; rintro e w' ⟨rfl, rfl⟩) | (refine wpList_pushT rfl (.tmp 36) (.tmp 38) rfl _ T rfl HO2.out ⟨kd, tx, nm, p⟩ _ rfl (by simp) (by omega) ?_; intro v4 W4 ho4 hf4 hr4; have HO4 := hide ho4; have HF4 := hide hf4; have HR4 := hide hr4; clear ho4 hf4 hr4))
              go_roundw
              case rel => exact ⟨q2, T ++ [⟨kd, tx, nm, p⟩], rfl, HT2.out, HO4.out, ((((HFW.out.trans HFV.out).trans HF2.out).trans (Fr.alloc _ _ (fun _ => False))).trans HF4.out).mono (fun j hj h => by rcases h with (((h | h) | h) | h) | h; exact h; exact h; exact h; exact h; (have := HX.out j h; omega)), HR4.out.le (by have := HFW.out.size; have := HFV.out.size; have := HF2.out.size; simp; omega) HX.out⟩
              case measure => simp [intOf]; omega
          · -- reader 1
            have hix : ∀ W, (Instr.index 43 (.agg #[.func (.func 14) #[] #[], .func (.func 15) #[] #[], .func (.func 16) #[] #[], .func (.func 17) #[] #[]]) (.int .i64 1)).run Tryd.prog W = .ok (.func (.func 15) #[] #[]) W := fun W => index43 1 (by omega) W
            have hrd := reader_any 1 (by omega) s p V hs hlt HEV.out
            cases hR : readerN 1 (s.data.toList.drop p) with
            | none =>
              have HFN := hide (HFD.out.next (by omega) hR)
              rw [hR] at hrd
              clear hR
              have hrd : Calls Tryd.prog 15 #[.string s, .int .i64 p] V fun e w' => (∃ t : Tok, e = .returned (.tuple #[.agg #[.int .i64 t.kind, .string (strOf t.text), .int .i64 t.num, .int .i64 t.pos], .int .i64 p])) ∧ Fr V w' (fun _ => False) := hrd
              go_wp2_with (go_at_call 15; refine hrd.mono ?_; rintro e V2 ⟨⟨t, rfl⟩, hf2⟩; have HF2 := hide hf2; clear hf2 hrd)
              go_roundw
              case rel => exact ⟨2, by omega, rfl, rfl, rfl, HFN.out, (((HFV.out.trans HF2.out).trans (Fr.alloc _ _ (fun _ => False))).mono (by simp))⟩
              case measure => simp [intOf]
            | some x =>
              obtain ⟨ht2, hq2, hx0⟩ := HTI.out.next hlt x (HFD.out.found (by omega) hR)
              rw [hR] at hrd
              clear hR
              obtain ⟨kd, tx, nm, ln⟩ := x
              have hrd : Calls Tryd.prog 15 #[.string s, .int .i64 p] V fun e w' => e = .returned (.tuple #[.agg #[.int .i64 kd, .string (strOf tx), .int .i64 nm, .int .i64 p], .int .i64 (p + ln : Nat)]) ∧ Fr V w' (fun _ => False) := hrd
              have ht2 : TInv s (passN gapB s (p + ln)) (T ++ [⟨kd, tx, nm, p⟩]) := ht2
              have hq2 : p + ln ≤ s.size := hq2
              have hx0 : 0 < ln := hx0
              have hq1 : p < p + ln := by omega
              have hgp := fun w => pass_gap s (p + ln) w (by omega) hq2
              have hge := passN_ge gapB s (p + ln)
              have HT2 := hide ht2
              have hlenT := HTI.out.len
              clear ht2 hx0
              generalize p + ln = q at *
              generalize passN gapB s q = q2 at *
              go_wp2_with (first | (go_at_call 15; refine hrd.mono ?_; rintro e V2 ⟨rfl, hf2⟩; have HF2 := hide hf2; have HO2 := hide ((HOV.out.fr hf2 (fun _ _ h => h)).fr (Fr.alloc V2 (.cells #[.int .i64 kd, .string (strOf tx), .int .i64 nm, .int .i64 p] 36) (fun _ => False)) (fun _ _ h => h)); clear hf2 hrd) | (go_at_call 18; refine (hgp _).mono ?_; rintro e w' ⟨rfl, rfl⟩) | (refine wpList_pushT rfl (.tmp 36) (.tmp 38) rfl _ T rfl HO2.out ⟨kd, tx, nm, p⟩ _ rfl (by simp) (by omega) ?_; intro v4 W4 ho4 hf4 hr4; have HO4 := hide ho4; have HF4 := hide hf4; have HR4 := hide hr4; clear ho4 hf4 hr4))
              go_roundw
              case rel => exact ⟨q2, T ++ [⟨kd, tx, nm, p⟩], rfl, HT2.out, HO4.out, ((((HFW.out.trans HFV.out).trans HF2.out).trans (Fr.alloc _ _ (fun _ => False))).trans HF4.out).mono (fun j hj h => by rcases h with (((h | h) | h) | h) | h; exact h; exact h; exact h; exact h; (have := HX.out j h; omega)), HR4.out.le (by have := HFW.out.size; have := HFV.out.size; have := HF2.out.size; simp; omega) HX.out⟩
              case measure => simp [intOf]; omega
          · -- reader 2
            have hix : ∀ W, (Instr.index 43 (.agg #[.func (.func 14) #[] #[], .func (.func 15) #[] #[], .func (.func 16) #[] #[], .func (.func 17) #[] #[]]) (.int .i64 2)).run Tryd.prog W = .ok (.func (.func 16) #[] #[]) W := fun W => index43 2 (by omega) W
            have hrd := reader_any 2 (by omega) s p V hs hlt HEV.out
            cases hR : readerN 2 (s.data.toList.drop p) with
            | none =>
              have HFN := hide (HFD.out.next (by omega) hR)
              rw [hR] at hrd
              clear hR
              have hrd : Calls Tryd.prog 16 #[.string s, .int .i64 p] V fun e w' => (∃ t : Tok, e = .returned (.tuple #[.agg #[.int .i64 t.kind, .string (strOf t.text), .int .i64 t.num, .int .i64 t.pos], .int .i64 p])) ∧ Fr V w' (fun _ => False) := hrd
              go_wp2_with (go_at_call 16; refine hrd.mono ?_; rintro e V2 ⟨⟨t, rfl⟩, hf2⟩; have HF2 := hide hf2; clear hf2 hrd)
              go_roundw
              case rel => exact ⟨3, by omega, rfl, rfl, rfl, HFN.out, (((HFV.out.trans HF2.out).trans (Fr.alloc _ _ (fun _ => False))).mono (by simp))⟩
              case measure => simp [intOf]
            | some x =>
              obtain ⟨ht2, hq2, hx0⟩ := HTI.out.next hlt x (HFD.out.found (by omega) hR)
              rw [hR] at hrd
              clear hR
              obtain ⟨kd, tx, nm, ln⟩ := x
              have hrd : Calls Tryd.prog 16 #[.string s, .int .i64 p] V fun e w' => e = .returned (.tuple #[.agg #[.int .i64 kd, .string (strOf tx), .int .i64 nm, .int .i64 p], .int .i64 (p + ln : Nat)]) ∧ Fr V w' (fun _ => False) := hrd
              have ht2 : TInv s (passN gapB s (p + ln)) (T ++ [⟨kd, tx, nm, p⟩]) := ht2
              have hq2 : p + ln ≤ s.size := hq2
              have hx0 : 0 < ln := hx0
              have hq1 : p < p + ln := by omega
              have hgp := fun w => pass_gap s (p + ln) w (by omega) hq2
              have hge := passN_ge gapB s (p + ln)
              have HT2 := hide ht2
              have hlenT := HTI.out.len
              clear ht2 hx0
              generalize p + ln = q at *
              generalize passN gapB s q = q2 at *
              go_wp2_with (first | (go_at_call 16; refine hrd.mono ?_; rintro e V2 ⟨rfl, hf2⟩; have HF2 := hide hf2; have HO2 := hide ((HOV.out.fr hf2 (fun _ _ h => h)).fr (Fr.alloc V2 (.cells #[.int .i64 kd, .string (strOf tx), .int .i64 nm, .int .i64 p] 36) (fun _ => False)) (fun _ _ h => h)); clear hf2 hrd) | (go_at_call 18; refine (hgp _).mono ?_; rintro e w' ⟨rfl, rfl⟩) | (refine wpList_pushT rfl (.tmp 36) (.tmp 38) rfl _ T rfl HO2.out ⟨kd, tx, nm, p⟩ _ rfl (by simp) (by omega) ?_; intro v4 W4 ho4 hf4 hr4; have HO4 := hide ho4; have HF4 := hide hf4; have HR4 := hide hr4; clear ho4 hf4 hr4))
              go_roundw
              case rel => exact ⟨q2, T ++ [⟨kd, tx, nm, p⟩], rfl, HT2.out, HO4.out, ((((HFW.out.trans HFV.out).trans HF2.out).trans (Fr.alloc _ _ (fun _ => False))).trans HF4.out).mono (fun j hj h => by rcases h with (((h | h) | h) | h) | h; exact h; exact h; exact h; exact h; (have := HX.out j h; omega)), HR4.out.le (by have := HFW.out.size; have := HFV.out.size; have := HF2.out.size; simp; omega) HX.out⟩
              case measure => simp [intOf]; omega
          · -- reader 3
            have hix : ∀ W, (Instr.index 43 (.agg #[.func (.func 14) #[] #[], .func (.func 15) #[] #[], .func (.func 16) #[] #[], .func (.func 17) #[] #[]]) (.int .i64 3)).run Tryd.prog W = .ok (.func (.func 17) #[] #[]) W := fun W => index43 3 (by omega) W
            have hrd := reader_any 3 (by omega) s p V hs hlt HEV.out
            cases hR : readerN 3 (s.data.toList.drop p) with
            | none =>
              have HFN := hide (HFD.out.next (by omega) hR)
              rw [hR] at hrd
              clear hR
              have hrd : Calls Tryd.prog 17 #[.string s, .int .i64 p] V fun e w' => (∃ t : Tok, e = .returned (.tuple #[.agg #[.int .i64 t.kind, .string (strOf t.text), .int .i64 t.num, .int .i64 t.pos], .int .i64 p])) ∧ Fr V w' (fun _ => False) := hrd
              go_wp2_with (go_at_call 17; refine hrd.mono ?_; rintro e V2 ⟨⟨t, rfl⟩, hf2⟩; have HF2 := hide hf2; clear hf2 hrd)
              go_roundw
              case rel => exact ⟨4, by omega, rfl, rfl, rfl, HFN.out, (((HFV.out.trans HF2.out).trans (Fr.alloc _ _ (fun _ => False))).mono (by simp))⟩
              case measure => simp [intOf]
            | some x =>
              obtain ⟨ht2, hq2, hx0⟩ := HTI.out.next hlt x (HFD.out.found (by omega) hR)
              rw [hR] at hrd
              clear hR
              obtain ⟨kd, tx, nm, ln⟩ := x
              have hrd : Calls Tryd.prog 17 #[.string s, .int .i64 p] V fun e w' => e = .returned (.tuple #[.agg #[.int .i64 kd, .string (strOf tx), .int .i64 nm, .int .i64 p], .int .i64 (p + ln : Nat)]) ∧ Fr V w' (fun _ => False) := hrd
              have ht2 : TInv s (passN gapB s (p + ln)) (T ++ [⟨kd, tx, nm, p⟩]) := ht2
              have hq2 : p + ln ≤ s.size := hq2
              have hx0 : 0 < ln := hx0
              have hq1 : p < p + ln := by omega
              have hgp := fun w => pass_gap s (p + ln) w (by omega) hq2
              have hge := passN_ge gapB s (p + ln)
              have HT2 := hide ht2
              have hlenT := HTI.out.len
              clear ht2 hx0
              generalize p + ln = q at *
              generalize passN gapB s q = q2 at *
              go_wp2_with (first | (go_at_call 17; refine hrd.mono ?_; rintro e V2 ⟨rfl, hf2⟩; have HF2 := hide hf2; have HO2 := hide ((HOV.out.fr hf2 (fun _ _ h => h)).fr (Fr.alloc V2 (.cells #[.int .i64 kd, .string (strOf tx), .int .i64 nm, .int .i64 p] 36) (fun _ => False)) (fun _ _ h => h)); clear hf2 hrd) | (go_at_call 18; refine (hgp _).mono ?_; rintro e w' ⟨rfl, rfl⟩) | (refine wpList_pushT rfl (.tmp 36) (.tmp 38) rfl _ T rfl HO2.out ⟨kd, tx, nm, p⟩ _ rfl (by simp) (by omega) ?_; intro v4 W4 ho4 hf4 hr4; have HO4 := hide ho4; have HF4 := hide hf4; have HR4 := hide hr4; clear ho4 hf4 hr4))
              go_roundw
              case rel => exact ⟨q2, T ++ [⟨kd, tx, nm, p⟩], rfl, HT2.out, HO4.out, ((((HFW.out.trans HFV.out).trans HF2.out).trans (Fr.alloc _ _ (fun _ => False))).trans HF4.out).mono (fun j hj h => by rcases h with (((h | h) | h) | h) | h; exact h; exact h; exact h; exact h; (have := HX.out j h; omega)), HR4.out.le (by have := HFW.out.size; have := HFV.out.size; have := HF2.out.size; simp; omega) HX.out⟩
              case measure => simp [intOf]; omega
        · obtain rfl : k = 4 := by omega
          have HB := hide (HTI.out.bad hlt HFD.out.all)
          have g0 := HGV.out.1
          have g1 := HGV.out.2.1
          have g2 := HGV.out.2.2
          go_wp2
          try rw [Exit.noGoto_ret]
          refine bodyPost_ret (results_fault Tryd.results9 _ _ w.heap.size ((HGV.out.set0 _).set1 _) rfl) rfl ⟨.inr ⟨p, hlt, HB.out, rfl⟩, ?_⟩
          exact (((HF0.out.trans HFV.out).trans (Fr.setCell _ _ _)).trans (Fr.setCell _ _ _)).mono (fun j hj h => by rcases h with ((h | h) | h) | h; exact h; exact h; (simp at h; omega); (simp at h; omega))
    · have HD := hide (HTI.out.done hlt)
      have g0 := HGW.out.1
      have g1 := HGW.out.2.1
      have g2 := HGW.out.2.2
      go_wp2
      try rw [Exit.noGoto_ret]
      refine bodyPost_ret (results_fault Tryd.results9 _ _ w.heap.size ((HGW.out.set0 _).set1 _) rfl) rfl ⟨.inl ⟨T, _, HD.out, rfl, ?_, ?_, ?_⟩, ?_⟩
      · exact (HOT.out.fr (Fr.setCell _ _ _) (fun j hj h => by have := HX.out j hj; have := HSZ.out; simp at h; omega)).fr (Fr.setCell _ _ _) (fun j hj h => by have := HX.out j hj; have := HSZ.out; simp at h; omega)
      · have := HTI.out.len; omega
      · intro q hq
        have := HX.out q hq
        have := HSZ.out
        omega
      · exact ((HF0.out.trans (Fr.setCell _ _ _)).trans (Fr.setCell _ _ _)).mono (fun j hj h => by rcases h with (h | h) | h; exact h; (simp at h; omega); (simp at h; omega))
end Go.Proofs.YtackfnojafinpaaDoor
