/- DiskDurable: the walk. -/
import Derived.Test.YtdbchicanlglhaaFw
namespace Go.Proofs.Ytdbchicanlglhaa
open Go.RowKit

def S8 : List (List UInt8) := List.replicate 8 blank

theorem laysTo_at (S : List (List UInt8)) (L : List (Nat × List UInt8)) (cnt : Nat → Option Nat) (f : Nat → List UInt8) (hL : ∀ i, i < L.length → L[i]? = some (i, f i)) (hS : L.length ≤ S.length) (n : Nat) : ∀ k, k ≤ L.length →
    (laysTo S L cnt k).getD n [] = if n < k then (match cnt n with | some c => (f n).take c ++ (S.getD n []).drop c | none => S.getD n []) else S.getD n [] := by
  intro k
  induction k with
  | zero => intro _; simp [laysTo]
  | succ k ih =>
    intro hk
    have ih := ih (by omega)
    have hp := hL k (by omega)
    cases hc : cnt k with
    | none =>
      rw [laysTo_none S L cnt k hc, ih]
      by_cases h1 : n < k
      · rw [if_pos h1, if_pos (by omega)]
      · rw [if_neg h1]
        by_cases h2 : n = k
        · subst h2; rw [if_pos (by omega), hc]
        · rw [if_neg (by omega)]
    | some c =>
      rw [laysTo_some S L cnt k _ hp c hc]
      unfold layS
      by_cases h2 : n = k
      · subst h2
        rw [if_pos (by omega), hc]
        rw [if_neg (by omega)] at ih
        simp only [ih]
        rw [List.getD_eq_getElem?_getD, List.getElem?_set_self (by rw [laysTo_length]; omega)]
        rfl
      · have e : ((laysTo S L cnt k).set k ((f k).take c ++ ((laysTo S L cnt k).getD k []).drop c)).getD n [] = (laysTo S L cnt k).getD n [] := by
          simp [List.getD_eq_getElem?_getD, Ne.symm h2]
        simp only [e, ih]
        by_cases h1 : n < k
        · rw [if_pos h1, if_pos (by omega)]
        · rw [if_neg h1, if_neg (by omega)]

theorem mod_u8' (u : UInt8) : ((u.toNat : Int) + 1) % 256 = ((u + 1).toNat : Int) := by
  rw [UInt8.toNat_add]
  simp

theorem lt8 {S : List (List UInt8)} (h : S.length = 8) {n : Int} (hn : n < 8) : n < (S.length : Int) := by rw [h]; exact hn

theorem durable_snoc {M : List (Nat × List UInt8)} {l0 : List UInt8} {k : Nat} {u : UInt8} (h : ∀ j, j < M.length → M[j]? = some (j, part 256 (l0.getD j 0 + 1))) (hk : M.length = k) (hu : l0[k]? = some u) :
    ∀ j, j < (M ++ [(k, part 256 (u + 1))]).length → (M ++ [(k, part 256 (u + 1))])[j]? = some (j, part 256 (l0.getD j 0 + 1)) := by
  intro j hj
  rw [List.length_append, List.length_singleton] at hj
  by_cases h2 : j < M.length
  · rw [List.getElem?_append_left h2]; exact h j h2
  · have e : j = k := by omega
    subst e
    rw [List.getElem?_append_right (by omega), hk, Nat.sub_self, List.getD_eq_getElem?_getD, hu]
    rfl

set_option maxRecDepth 100000 in
set_option maxHeartbeats 16000000 in
theorem durable_walk (a0 : Option Addr) (len0 cap0 : Nat) (l0 : List UInt8) (ok oat : Int) (da : Option Addr) (dl dc : Nat) (ka : Option Addr) (kl kc : Nat) (kb : List Bool) (t0 t1 : Int) (w : World)
    (h0 : BI w a0 len0 l0) (hkb : Bools w ka kl kb) (hlen0 : len0 ≤ 1048576) :
    Calls Try.prog 4 #[.slice a0 len0 cap0, .agg #[.int .i64 ok, .int .i64 oat, .slice da dl dc, .slice ka kl kc, .int .i64 t0, .int .i64 t1]] w fun e w' => e = .returned (.bool true) ∧ Below w.heap.size w w' := by
  go_enter Try.func4, Try.ntmps4
  go_wp2_with fail
  obtain ⟨w0, hw0⟩ : ∃ w0, w0 = w.alloc (.cells #[.int .i64 ok, .int .i64 oat, .slice da dl dc, .slice ka kl kc, .int .i64 t0, .int .i64 t1] 38) := ⟨_, rfl⟩
  rw [← hw0]
  have HOB := hide (latest_block hw0)
  have F00 : Fr w w0 (fun _ => False) := by rw [hw0]; exact Fr.alloc _ _ _
  have hs0 : w0.heap.size = w.heap.size + 1 := by rw [hw0]; simp
  have H0 := hide (h0.fr F00)
  have HK := hide (hkb.fr F00)
  have HF00 := hide F00
  have HS0 := hide hs0
  obtain ⟨ob, hob⟩ : ∃ ob, ob = w.heap.size := ⟨_, rfl⟩
  rw [← hob] at HOB ⊢
  have HOL := hide (by omega : ob < w0.heap.size)
  clear hw0 F00 hs0 h0 hkb hob
  refine (awake_any w0).mono ?_
  rintro e w1 ⟨rfl, F1⟩
  have s1 := F1.size
  go_wp2_with fail
  refine (new_any 8 8 rfl (by omega) (by omega) w1).mono ?_
  rintro e w2 ⟨rfl, hD2, hs2, F2⟩
  have FB2 := hide (Fr.up (F1.mono (by simp)) F2 (by simp))
  obtain ⟨b, hbb⟩ : ∃ b, b = w1.heap.size + 1 := ⟨_, rfl⟩
  obtain ⟨gs, hgs⟩ : ∃ gs, gs = w1.heap.size := ⟨_, rfl⟩
  rw [← hbb, ← hgs] at hD2
  rw [← hbb]
  have HD2 := hide hD2
  have HNE := hide (by omega : w0.heap.size ≤ b ∧ w0.heap.size ≤ gs)
  clear hD2 hs2 F1 F2 hbb hgs s1
  go_wp2_with fail
  go_loopw [33] (fun i wr => ∃ k : Nat, k ≤ len0 ∧ i = .int .i64 k ∧ ∃ L pv, L.length = k ∧ DiskIs wr b gs 8 (enc (List.replicate 8 blank).flatten).toArray pv S8 L ∧ (∀ q, pv.ownBlock = some q → w0.heap.size ≤ q) ∧ Fr w0 wr (fun k => w0.heap.size ≤ k)) (fun i _ => len0 - (intOf i).toNat)
  case atStart => exact ⟨0, Nat.zero_le _, rfl, [], .slice none 0 0, rfl, HD2.out, by simp [Value.ownBlock], FB2.out⟩
  case round =>
    obtain ⟨k, hk, rfl, L, pv, hL, hD, hpb, hfr⟩ := hrel
    rename World => w3
    have HLL := hide hL
    have hLb : L.length ≤ 1048576 := by omega
    have HD := hide hD
    have HPB := hide hpb
    have HFR := hide hfr
    clear hD hpb hfr hL
    by_cases hlt : k < len0
    · obtain ⟨ag, ao, u, rfl, hu, hc⟩ := H0.out.get HFR.out k hlt
      clear hu
      go_wp2_with fail
      refine (full_any _ u rfl w3).mono ?_
      rintro e w4 ⟨rfl, hw4⟩
      have F4 : Fr w3 w4 (fun _ => False) := by rw [hw4]; exact Fr.alloc _ _ _
      have HR4 := hide (rangeAt_block (latest_block hw4))
      have HD4 := hide (HD.out.fr F4 (by simp) (by simp) (by simp))
      have FR4 := hide (HFR.out.up F4 (by simp))
      have s4 := F4.size
      clear hw4 F4
      go_wp2_with fail
      refine (write_any HD4.out ((k : Int) % 8) (by omega) (lt8 rfl (by omega)) w3.heap.size 0 256 (part 256 u) (length_part _ _ (Nat.le_refl _)) HR4.out (by intro h2; have := (HD.out.pend.lt _ h2).2; omega) (by omega)).mono ?_
      rintro e w5 ⟨rfl, pv', hD5, hpv5, F5⟩
      have HD5 := hide hD5
      have HPB5 : Hid (∀ q, pv'.ownBlock = some q → w0.heap.size ≤ q) := by
        intro q hq
        rcases hpv5 with h3 | ⟨q', h3, h4⟩
        · rw [h3] at hq; exact HPB.out q hq
        · rw [h3] at hq; injection hq; have := FR4.out.size; omega
      have FR5 : Hid (Fr w0 w5 (fun k => w0.heap.size ≤ k)) := FR4.out.up F5 (by
        rintro q (h2 | h2)
        · rw [h2]; exact HNE.out.1
        · exact HPB.out q h2)
      clear hD5 hpv5 F5
      go_wp2
      go_roundw
      case rel => exact ⟨k + 1, by omega, by go_num, _, pv', by rw [List.length_append, HLL.out]; rfl, HD5.out, HPB5.out, FR5.out⟩
      case measure => simp [intOf]; omega
    · go_wp2_with fail
      refine (sync_any HD.out (by omega)).mono ?_
      rintro e w4 ⟨rfl, Cs4, hD4, F4⟩
      obtain ⟨S1, hS1⟩ : ∃ S1, S1 = laysTo S8 L (fun _ => some 256) L.length := ⟨_, rfl⟩
      rw [← hS1] at hD4
      have hS1l : S1.length = 8 := by rw [hS1, laysTo_length]; rfl
      have HD4 := hide hD4
      have FR4 := hide (HFR.out.up F4 (by rintro q (h2 | h2); exact h2 ▸ HNE.out.2; exact h2 ▸ HNE.out.1))
      have HS1L := hide hS1l
      clear hD4 F4 hS1 hS1l HD HLL HPB hlt hk
      go_wp2_with fail
      refine (fork_any HD4.out (by rw [HS1L.out]; omega) (by simp)).mono ?_
      rintro e w5 ⟨b', gs', cs', Cs', pv', rfl, hD5', hb5, hg5, hp5, F5⟩
      have s45 := F5.size
      have HD5 := hide (HD4.out.fr F5 (by simp) (by simp) (by simp))
      have HDF := hide hD5'
      have FR5 := hide (FR4.out.up F5 (by simp))
      have HLT := hide (disk_lt HD4.out)
      have HLF := hide (disk_lt hD5')
      have HB5 := hide (by exact ⟨hb5, hg5, hp5⟩ : w4.heap.size ≤ b' ∧ w4.heap.size ≤ gs' ∧ ∀ k, pv'.ownBlock = some k → w4.heap.size ≤ k)
      clear hD5' hb5 hg5 hp5 F5
      go_wp2_with fail
      go_loopw [53] (fun i wr => ∃ k : Nat, k ≤ len0 ∧ i = .int .i64 k ∧ ∃ M pv, M.length = min k 8 ∧ (∀ j, j < M.length → M[j]? = some (j, part 256 (l0.getD j 0 + 1))) ∧ DiskIs wr b gs 8 Cs4 pv S1 M ∧ (∀ q, pv.ownBlock = some q → w5.heap.size ≤ q) ∧ Fr w5 wr (fun q => q = b ∨ w5.heap.size ≤ q)) (fun i _ => len0 - (intOf i).toNat)
      case atStart => exact ⟨0, Nat.zero_le _, rfl, [], _, rfl, by simp, HD5.out, by simp [Value.ownBlock], Fr.refl _ _⟩
      case round =>
        obtain ⟨k, hk, rfl, M, qv, hM, hMM, hD, hpb, hfr⟩ := hrel
        rename World => w6
        have HMM := hide hM
        have HMW := hide hMM
        have hMb : M.length ≤ 8 := by omega
        have HD6 := hide hD
        have HPB6 := hide hpb
        have HFR6 := hide hfr
        have FB6 := hide (FR5.out.up hfr (by
          rintro q (h2 | h2)
          · rw [h2]; exact HNE.out.1
          · have := FR5.out.size; omega))
        clear hD hpb hfr hM hMM
        by_cases hlt : k < len0
        · obtain ⟨ag, ao, u, rfl, hu, hc⟩ := H0.out.get FB6.out k hlt
          have HU := hide hu
          clear hu
          by_cases hk8 : k < 8
          · have hk9 : decide ((k : Int) < 8) = true := by simp; omega
            go_wp2_with fail
            refine (full_any _ (u + 1) (mod_u8' u) w6).mono ?_
            rintro e w7 ⟨rfl, hw7⟩
            have F7 : Fr w6 w7 (fun _ => False) := by rw [hw7]; exact Fr.alloc _ _ _
            have HR7 := hide (rangeAt_block (latest_block hw7))
            have HD7 := hide (HD6.out.fr F7 (by simp) (by simp) (by simp))
            have HF7 := hide F7
            have s7 := F7.size
            clear hw7 F7
            go_wp2_with fail
            refine (write_any HD7.out (k : Int) (by omega) (lt8 HS1L.out (by omega)) w6.heap.size 0 256 (part 256 (u + 1)) (length_part _ _ (Nat.le_refl _)) HR7.out (by intro h2; have := (HD6.out.pend.lt _ h2).2; omega) (by omega)).mono ?_
            rintro e w8 ⟨rfl, pv8, hD8, hpv8, F8⟩
            rw [Int.toNat_natCast] at hD8
            have HD8 := hide hD8
            have HPB8 : Hid (∀ q, pv8.ownBlock = some q → w5.heap.size ≤ q) := by
              intro q hq
              rcases hpv8 with h3 | ⟨q', h3, h4⟩
              · rw [h3] at hq; exact HPB6.out q hq
              · rw [h3] at hq; injection hq; have := HFR6.out.size; omega
            have HFR8 : Hid (Fr w5 w8 (fun q => q = b ∨ w5.heap.size ≤ q)) := (HFR6.out.trans (HF7.out.trans F8)).mono (by
              rintro q _ (h2 | h2 | h2 | h2)
              · exact h2
              · exact h2.elim
              · exact .inl h2
              · exact .inr (HPB6.out q h2))
            clear hD8 hpv8 F8
            go_wp2
            go_roundw
            case rel => exact ⟨k + 1, by omega, by go_num, _, pv8, by rw [List.length_append, HMM.out]; simp; omega, durable_snoc HMW.out (by rw [HMM.out]; omega) HU.out, HD8.out, HPB8.out, HFR8.out⟩
            case measure => simp [intOf]; omega
          · have hk9 : decide ((k : Int) < 8) = false := by simp; omega
            go_wp2
            go_roundw
            case rel => exact ⟨k + 1, by omega, by go_num, M, qv, by rw [HMM.out]; omega, HMW.out, HD6.out, HPB6.out, HFR6.out⟩
            case measure => simp [intOf]; omega
        · have hob6 : w6.heap[ob]? = some (.cells #[.int .i64 ok, .int .i64 oat, .slice da dl dc, .slice ka kl kc, .int .i64 t0, .int .i64 t1] 38 (0, 0)) := by
            rw [FB6.out.block ob HOL.out (by have := HOL.out; omega)]; exact HOB.out
          have o3 : w6.cell? ⟨ob, 3, none⟩ = some (.slice ka kl kc) := by rw [cell_of_row _ _ _ _ _ _ hob6]; rfl
          have o4 : w6.cell? ⟨ob, 4, none⟩ = some (.int .i64 t0) := by rw [cell_of_row _ _ _ _ _ _ hob6]; rfl
          have o5 : w6.cell? ⟨ob, 5, none⟩ = some (.int .i64 t1) := by rw [cell_of_row _ _ _ _ _ _ hob6]; rfl
          clear hob6
          go_wp2_with fail
          refine (crash_any HD6.out ka kl kc kb (HK.out.keep FB6.out HNE.out.2) t0 t1 (by omega)).mono ?_
          rintro e w7 ⟨rfl, Cs7, hD7, F7⟩
          obtain ⟨cc, hcc⟩ : ∃ cc, cc = (min (max t1 0) 256).toNat := ⟨_, rfl⟩
          rw [← hcc] at hD7
          obtain ⟨S2, hS2⟩ : ∃ S2, S2 = laysTo S1 M (crashN kb t0 cc) M.length := ⟨_, rfl⟩
          have hS2l : S2.length = 8 := by rw [hS2, laysTo_length]; exact HS1L.out
          have hSat : ∀ n, n < 8 → S2.getD n [] = if n < len0 then (match crashN kb t0 cc n with | some c => (part 256 (l0.getD n 0 + 1)).take c ++ (S1.getD n []).drop c | none => S1.getD n []) else S1.getD n [] := by
            intro n hn
            rw [hS2, laysTo_at S1 M (crashN kb t0 cc) (fun j => part 256 (l0.getD j 0 + 1)) HMW.out (by rw [HS1L.out]; exact hMb) n M.length (Nat.le_refl _), HMM.out]
            by_cases h3 : n < len0
            · rw [if_pos (by omega), if_pos h3]
            · rw [if_neg (by omega), if_neg h3]
          rw [← hS2] at hD7
          have HSAT := hide hSat
          have HS2L := hide hS2l
          have HX7 : Hid (Fr w5 w7 (fun q => q = b ∨ q = gs ∨ w5.heap.size ≤ q)) := (HFR6.out.trans F7).mono (by
            rintro q _ ((h2 | h2) | (h2 | h2))
            · exact .inl h2
            · exact .inr (.inr h2)
            · exact .inr (.inl h2)
            · exact .inl h2)
          have FB7 := hide (FB6.out.up F7 (by rintro q (h2 | h2); exact h2 ▸ HNE.out.2; exact h2 ▸ HNE.out.1))
          have hlt3 := HLT.out
          have hltf := HLF.out
          have hB5 := HB5.out
          have HDF7 := hide (HDF.out.fr HX7.out
            (by rintro (h2 | h2 | h2) <;> omega)
            (by rintro (h2 | h2 | h2) <;> omega)
            (by rintro q hq (h2 | h2 | h2)
                · have := hB5.2.2 q hq; omega
                · have := hB5.2.2 q hq; omega
                · have := hltf.2.2 q hq; omega))
          have HD7 := hide hD7
          clear hD7 F7 o3 o4 o5 hS2 hS2l hSat hcc hlt3 hltf hB5
          go_wp2_with fail
          go_loopw [12] (fun i wr => ∃ n : Nat, n ≤ 8 ∧ i = .int .i64 n ∧ Fr w7 wr (fun _ => False)) (fun i _ => 8 - (intOf i).toNat)
          case atStart => exact ⟨0, Nat.zero_le _, rfl, Fr.refl _ _⟩
          case round =>
            obtain ⟨n, hn, rfl, hfr8⟩ := hrel
            rename World => w8
            have HF8 := hide hfr8
            have HD8 := hide (HD7.out.fr hfr8 (by simp) (by simp) (by simp))
            have HDF8 := hide (HDF7.out.fr hfr8 (by simp) (by simp) (by simp))
            have FB8 := hide (FB7.out.up hfr8 (by simp))
            clear hfr8
            by_cases hn8 : n < 8
            · have hn9 : decide ((n : Int) < 8) = true := by simp; omega
              go_wp2_with fail
              refine (read_any HDF8.out n n rfl (by rw [HS1L.out]; exact hn8) (by simp)).mono ?_
              rintro e w9 ⟨rfl, hb9, hs9, F9⟩
              rw [latest_none] at hb9
              have HD9 := hide (HD8.out.fr F9 (by simp) (by simp) (by simp))
              go_wp2_with fail
              refine (read_any HD9.out n n rfl (by rw [HS2L.out]; exact hn8) (by simp)).mono ?_
              rintro e wB ⟨rfl, hbB, hsB, FB⟩
              rw [latest_none] at hbB
              have HRO := hide (rangeAt_fr (rangeAt_block hb9) FB id)
              have HRN := hide (rangeAt_block hbB)
              have F8B : Fr w8 wB (fun _ => False) := (F9.trans FB).mono (by simp)
              have HF8B := hide F8B
              have FBB := hide (FB8.out.up F8B (by simp))
              have hobB : wB.heap[ob]? = some (.cells #[.int .i64 ok, .int .i64 oat, .slice da dl dc, .slice ka kl kc, .int .i64 t0, .int .i64 t1] 38 (0, 0)) := by
                rw [FBB.out.block ob HOL.out (by have := HOL.out; omega)]; exact HOB.out
              have o3 : wB.cell? ⟨ob, 3, none⟩ = some (.slice ka kl kc) := by rw [cell_of_row _ _ _ _ _ _ hobB]; rfl
              have o4 : wB.cell? ⟨ob, 4, none⟩ = some (.int .i64 t0) := by rw [cell_of_row _ _ _ _ _ _ hobB]; rfl
              have hkB := HK.out.keep (gs := gs) FBB.out HNE.out.2
              have hX1 : (S1.getD n []).length = 256 := HDF8.out.sector_length n (by rw [HS1L.out]; exact hn8)
              obtain ⟨gold, hgold⟩ : ∃ gold, gold = w8.heap.size + 1 := ⟨_, rfl⟩
              obtain ⟨gnow, hgnow⟩ : ∃ gnow, gnow = w9.heap.size + 1 := ⟨_, rfl⟩
              rw [← hgold] at HRO ⊢
              rw [← hgnow] at HRN ⊢
              clear hb9 hs9 F9 hbB hsB FB F8B hobB hgold hgnow
              by_cases hwr : n < len0
              · have hw1 : decide ((n : Int) < (len0 : Int)) = true := by simp; omega
                by_cases hnt : (n : Int) = t0
                · have hq : ((n : Int) == t0) = true := by simp [hnt]
                  clear hnt hkB
                  go_wp2
                  go_roundw
                  case rel => exact ⟨n + 1, by omega, by go_num, (HF8.out.trans HF8B.out).mono (by simp)⟩
                  case measure => simp [intOf]; omega
                · have hq : ((n : Int) == t0) = false := by simp [hnt]
                  by_cases hkb : kb.getD n false = true
                  · have hXu : S2.getD n [] = part 256 (l0.getD n 0 + 1) := by
                      rw [HSAT.out n hn8, if_pos hwr]
                      simp only [crashN, hnt, hkb, if_true, if_false]
                      rw [List.take_of_length_le (by rw [length_part _ _ (Nat.le_refl _)]; exact Nat.le_refl _), List.drop_eq_nil_of_le (by omega), List.append_nil]
                    obtain ⟨X, hX⟩ : ∃ X, X = S2.getD n [] := ⟨_, rfl⟩
                    rw [← hX] at HRN hXu
                    have hXl : X.length = 256 := by rw [hXu, length_part _ _ (Nat.le_refl _)]
                    obtain ⟨ag, ao, u, rfl, hu, hcB⟩ := H0.out.get FBB.out n hwr
                    have hu2 : l0.getD n 0 = u := by rw [List.getD_eq_getElem?_getD, hu]; rfl
                    rw [hu2] at hXu
                    have HXU := hide hXu
                    have hkl2 : n < kl := by
                      rw [← hkB.1]
                      rcases Nat.lt_or_ge n kb.length with h3 | h3
                      · exact h3
                      · simp [List.getD_eq_getElem?_getD, List.getElem?_eq_none h3] at hkb
                    have hkl3 : decide ((n : Int) < (kl : Int)) = true := by simp; omega
                    have hkl4 : (n : Int) < (kl : Int) := by omega
                    obtain ⟨kg, koff, rfl, hkg, hkc⟩ := hkB.2.resolve_left (by omega)
                    have hcell : wB.cell? ⟨kg, koff + n, none⟩ = some (.bool true) := hkc n true (by
                      rw [List.getD_eq_getElem?_getD] at hkb
                      cases e : kb[n]? with
                      | none => rw [e] at hkb; cases hkb
                      | some x => rw [e] at hkb; exact congrArg some hkb)
                    have hw2 : (n : Int) < (len0 : Int) := by omega
                    clear hX hu hu2 hkb hkc hkB hnt hXu
                    go_wp2_with fail
                    refine wp_region_K (fun _ => true) (fun W => W.rangeAt gnow 0 (enc X) ∧ W.cell? ⟨ag, ao + n, none⟩ = some (.int .u8 u.toNat)) (by kernel_rfl) ?_
                    have hS : wB.drew.rangeAt gnow 0 (enc X) ∧ wB.drew.cell? ⟨ag, ao + n, none⟩ = some (.int .u8 u.toNat) := ⟨by simpa using HRN.out, by simpa using hcB⟩
                    refine wpAnyK_takeTo 0 (some 128) (.bool true) [] rfl rfl (by kernel_rfl) (by kernel_rfl) (by kernel_rfl) (by kernel_rfl) (fun _ _ _ h => h) hS (Or.inl ⟨rfl, fun w1 hw1 => by go_simp⟩) ?_
                    simp only [Act.put, List.setIfInBounds_toArray, List.set_cons_zero, List.set_cons_succ]
                    refine wpAnyK_takeTo 1 (some 129) (.bool false) [] rfl rfl (by kernel_rfl) (by kernel_rfl) (by kernel_rfl) (by kernel_rfl) (fun _ _ _ h => h) hS (Or.inl ⟨rfl, fun w1 hw1 => by go_simp⟩) ?_
                    simp only [Act.put, List.setIfInBounds_toArray, List.set_cons_zero, List.set_cons_succ]
                    refine wpAnyK_takeTo 2 (some 130) (.bool false) [] rfl rfl (by kernel_rfl) (by kernel_rfl) (by kernel_rfl) (by kernel_rfl) (fun _ _ _ h => h) hS (Or.inl ⟨rfl, fun w1 hw1 => by go_simp⟩) ?_
                    simp only [Act.put, List.setIfInBounds_toArray, List.set_cons_zero, List.set_cons_succ]
                    refine wpAnyK_takeTo 3 (some 131) (undef) [] rfl rfl (by kernel_rfl) (by kernel_rfl) (by kernel_rfl) (by kernel_rfl) (fun _ _ _ h => h) hS (Or.inr ⟨rfl, rfl⟩) ?_
                    simp only [Act.put, List.setIfInBounds_toArray, List.set_cons_zero, List.set_cons_succ]
                    refine wpAnyK_takeTo 4 (some 132) (undef) [] rfl rfl (by kernel_rfl) (by kernel_rfl) (by kernel_rfl) (by kernel_rfl) (fun _ _ _ h => h) hS (Or.inr ⟨rfl, rfl⟩) ?_
                    simp only [Act.put, List.setIfInBounds_toArray, List.set_cons_zero, List.set_cons_succ]
                    refine wpAnyK_takeTo 5 (some 133) (undef) [] rfl rfl (by kernel_rfl) (by kernel_rfl) (by kernel_rfl) (by kernel_rfl) (fun _ _ _ h => h) hS (Or.inr ⟨rfl, rfl⟩) ?_
                    simp only [Act.put, List.setIfInBounds_toArray, List.set_cons_zero, List.set_cons_succ]
                    refine wpAnyK_takeTo 6 (some 134) (undef) [] rfl rfl (by kernel_rfl) (by kernel_rfl) (by kernel_rfl) (by kernel_rfl) (fun _ _ _ h => h) hS (Or.inr ⟨rfl, rfl⟩) ?_
                    simp only [Act.put, List.setIfInBounds_toArray, List.set_cons_zero, List.set_cons_succ]
                    refine wpAnyK_takeTo 7 (some 135) (undef) [] rfl rfl (by kernel_rfl) (by kernel_rfl) (by kernel_rfl) (by kernel_rfl) (fun _ _ _ h => h) hS (Or.inr ⟨rfl, rfl⟩) ?_
                    simp only [Act.put, List.setIfInBounds_toArray, List.set_cons_zero, List.set_cons_succ]
                    refine wpAnyK_takeTo 8 (some 136) (.bool false) [] rfl rfl (by kernel_rfl) (by kernel_rfl) (by kernel_rfl) (by kernel_rfl) (fun _ _ _ h => h) hS (Or.inl ⟨rfl, fun w1 hw1 => by go_simp⟩) ?_
                    simp only [Act.put, List.setIfInBounds_toArray, List.set_cons_zero, List.set_cons_succ]
                    refine wpAnyK_takeTo 9 (some 137) (.bool false) [] rfl rfl (by kernel_rfl) (by kernel_rfl) (by kernel_rfl) (by kernel_rfl) (fun _ _ _ h => h) hS (Or.inl ⟨rfl, fun w1 hw1 => by go_simp⟩) ?_
                    simp only [Act.put, List.setIfInBounds_toArray, List.set_cons_zero, List.set_cons_succ]
                    refine wpAnyK_takeTo 10 (some 138) (.bool true) [] rfl rfl (by kernel_rfl) (by kernel_rfl) (by kernel_rfl) (by kernel_rfl) (fun _ _ _ h => h) hS (Or.inl ⟨rfl, fun w1 hw1 => by go_simp⟩) ?_
                    simp only [Act.put, List.setIfInBounds_toArray, List.set_cons_zero, List.set_cons_succ]
                    refine wpAnyK_takeTo 11 (some 139) (.bool true) [] rfl rfl (by kernel_rfl) (by kernel_rfl) (by kernel_rfl) (by kernel_rfl) (fun _ _ _ h => h) hS (Or.inl ⟨rfl, fun w1 hw1 => by go_simp⟩) ?_
                    simp only [Act.put, List.setIfInBounds_toArray, List.set_cons_zero, List.set_cons_succ]
                    refine wpAnyK_takeTo 12 (some 140) (.slice (some ⟨gnow, 0, none⟩) 256 256) [] rfl rfl (by kernel_rfl) (by kernel_rfl) (by kernel_rfl) (by kernel_rfl) (fun _ _ _ h => h) hS (Or.inl ⟨rfl, fun w1 hw1 => by go_simp⟩) ?_
                    simp only [Act.put, List.setIfInBounds_toArray, List.set_cons_zero, List.set_cons_succ]
                    refine wpAnyK_takeTo 13 (some 141) (.string (strOf X)) [] rfl rfl (by kernel_rfl) (by kernel_rfl) (by kernel_rfl) (by kernel_rfl) (fun _ _ _ h => h) hS (Or.inl ⟨rfl, fun w1 hw1 => exec_string (.tmp 140) rfl rfl (bin_range hw1.1 hXl)⟩) ?_
                    simp only [Act.put, List.setIfInBounds_toArray, List.set_cons_zero, List.set_cons_succ]
                    refine wpAnyK_takeTo 14 (some 142) (.slice (some ⟨ag, ao, none⟩) len0 cap0) [] rfl rfl (by kernel_rfl) (by kernel_rfl) (by kernel_rfl) (by kernel_rfl) (fun _ _ _ h => h) hS (Or.inl ⟨rfl, fun w1 hw1 => by go_simp⟩) ?_
                    simp only [Act.put, List.setIfInBounds_toArray, List.set_cons_zero, List.set_cons_succ]
                    refine wpAnyK_takeTo 15 (some 143) (.int .i64 n) [] rfl rfl (by kernel_rfl) (by kernel_rfl) (by kernel_rfl) (by kernel_rfl) (fun _ _ _ h => h) hS (Or.inl ⟨rfl, fun w1 hw1 => by go_simp⟩) ?_
                    simp only [Act.put, List.setIfInBounds_toArray, List.set_cons_zero, List.set_cons_succ]
                    refine wpAnyK_takeTo 16 (some 144) (.pointer (some ⟨ag, ao + n, none⟩)) [] rfl rfl (by kernel_rfl) (by kernel_rfl) (by kernel_rfl) (by kernel_rfl) (fun _ _ _ h => h) hS (Or.inl ⟨rfl, fun w1 hw1 => by go_simp⟩) ?_
                    simp only [Act.put, List.setIfInBounds_toArray, List.set_cons_zero, List.set_cons_succ]
                    refine wpAnyK_takeTo 17 (some 145) (.int .u8 u.toNat) [] rfl rfl (by kernel_rfl) (by kernel_rfl) (by kernel_rfl) (by kernel_rfl) (fun _ _ _ h => h) hS (Or.inl ⟨rfl, fun w1 hw1 => by simp only [] at hw1; obtain ⟨_, hw2⟩ := hw1; go_simp⟩) ?_
                    simp only [Act.put, List.setIfInBounds_toArray, List.set_cons_zero, List.set_cons_succ]
                    refine wpAnyK_takeTo 18 (some 146) (.int .u8 (((u.toNat : Int) + 1) % 256)) [] rfl rfl (by kernel_rfl) (by kernel_rfl) (by kernel_rfl) (by kernel_rfl) (fun _ _ _ h => h) hS (Or.inl ⟨rfl, fun w1 hw1 => by go_simp; rw [IntKind.wrap_u8]⟩) ?_
                    simp only [Act.put, List.setIfInBounds_toArray, List.set_cons_zero, List.set_cons_succ]
                    refine wpAnyK_one (i := 19) (by kernel_rfl) rfl rfl ?_
                    refine wp_call_to (some 147) rfl 14 #[.int .u8 (((u.toNat : Int) + 1) % 256)] (by go_simp) (full_any _ (u + 1) (mod_u8' u) wB.drew) ?_
                    rintro e wC ⟨rfl, hwC⟩
                    have FC : Fr wB wC (fun _ => False) := by rw [hwC]; exact ((Fr.drew wB (fun _ => False)).trans (Fr.alloc _ _ (fun _ => False))).mono (by simp)
                    have hRC := rangeAt_block (latest_block hwC)
                    have hS2 : wC.rangeAt gnow 0 (enc X) ∧ wC.cell? ⟨ag, ao + n, none⟩ = some (.int .u8 u.toNat) := ⟨rangeAt_fr HRN.out FC id, by
                      rw [World.cell?_of_block (w := wB) (FC.block ag (World.block_lt_of_cell? wB _ hcB) id)]; exact hcB⟩
                    clear hwC
                    refine ⟨_, rfl, ?_⟩
                    simp only [Act.put, List.setIfInBounds_toArray, List.set_cons_zero, List.set_cons_succ]
                    refine ⟨fun _ => hS2, ?_⟩
                    refine wpAnyK_one (i := 20) (by kernel_rfl) rfl rfl ?_
                    refine wp_string (.tmp 147) rfl (some 148) rfl rfl (bin_range hRC (length_part 256 (u + 1) (Nat.le_refl _))) ?_
                    simp only [Act.put, List.setIfInBounds_toArray, List.set_cons_zero, List.set_cons_succ]
                    refine ⟨fun _ => hS2, ?_⟩
                    rw [← HXU.out]
                    refine wpAnyK_takeTo 21 (some 149) (.bool false) [] rfl rfl (by kernel_rfl) (by kernel_rfl) (by kernel_rfl) (by kernel_rfl) (fun _ _ _ h => h) hS2 (Or.inl ⟨rfl, fun w1 hw1 => by go_simp⟩) ?_
                    simp only [Act.put, List.setIfInBounds_toArray, List.set_cons_zero, List.set_cons_succ]
                    refine wpAnyK_takeTo 22 (some 150) (.bool false) [] rfl rfl (by kernel_rfl) (by kernel_rfl) (by kernel_rfl) (by kernel_rfl) (fun _ _ _ h => h) hS2 (Or.inl ⟨rfl, fun w1 hw1 => by go_simp⟩) ?_
                    simp only [Act.put, List.setIfInBounds_toArray, List.set_cons_zero, List.set_cons_succ]
                    refine wpAnyK_takeTo 23 (some 151) (.bool false) [] rfl rfl (by kernel_rfl) (by kernel_rfl) (by kernel_rfl) (by kernel_rfl) (fun _ _ _ h => h) hS2 (Or.inl ⟨rfl, fun w1 hw1 => by go_simp⟩) ?_
                    simp only [Act.put, List.setIfInBounds_toArray, List.set_cons_zero, List.set_cons_succ]
                    refine wpAnyK_done (by kernel_rfl) ?_ _
                    go_wp2
                    go_roundw
                    case rel => exact ⟨n + 1, by omega, by go_num, (HF8.out.trans (HF8B.out.trans FC)).mono (by simp)⟩
                    case measure => simp [intOf]; omega
                  · have hXX : S2.getD n [] = S1.getD n [] := by
                      rw [HSAT.out n hn8, if_pos hwr]
                      simp only [crashN, hnt, hkb, if_false]
                      simp
                    obtain ⟨X, hX⟩ : ∃ X, X = S1.getD n [] := ⟨_, rfl⟩
                    rw [hXX, ← hX] at HRN
                    rw [← hX] at HRO
                    have hXl : X.length = 256 := by rw [hX]; exact hX1
                    clear hX hXX hX1
                    by_cases hkl2 : n < kl
                    · have hkl3 : decide ((n : Int) < (kl : Int)) = true := by simp; omega
                      have hkl4 : (n : Int) < (kl : Int) := by omega
                      obtain ⟨kg, koff, rfl, hkg, hkc⟩ := hkB.2.resolve_left (by omega)
                      have hcell : wB.cell? ⟨kg, koff + n, none⟩ = some (.bool false) := hkc n false (by
                        rw [List.getD_eq_getElem?_getD] at hkb
                        cases e : kb[n]? with
                        | none => exact absurd (List.getElem?_eq_none_iff.1 e) (by rw [hkB.1]; omega)
                        | some x => rw [e] at hkb; simpa using hkb)
                      clear hkb hkc hkB hnt
                      go_wp2_with fail
                      refine wp_region_K (fun _ => true) (fun W => W.rangeAt gnow 0 (enc X) ∧ W.rangeAt gold 0 (enc X)) (by kernel_rfl) ?_
                      have hS : wB.drew.rangeAt gnow 0 (enc X) ∧ wB.drew.rangeAt gold 0 (enc X) := ⟨by simpa using HRN.out, by simpa using HRO.out⟩
                      refine wpAnyK_takeTo 0 (some 128) (.bool false) [] rfl rfl (by kernel_rfl) (by kernel_rfl) (by kernel_rfl) (by kernel_rfl) (fun _ _ _ h => h) hS (Or.inl ⟨rfl, fun w1 hw1 => by go_simp⟩) ?_
                      simp only [Act.put, List.setIfInBounds_toArray, List.set_cons_zero, List.set_cons_succ]
                      refine wpAnyK_takeTo 1 (some 129) (.bool true) [] rfl rfl (by kernel_rfl) (by kernel_rfl) (by kernel_rfl) (by kernel_rfl) (fun _ _ _ h => h) hS (Or.inl ⟨rfl, fun w1 hw1 => by go_simp⟩) ?_
                      simp only [Act.put, List.setIfInBounds_toArray, List.set_cons_zero, List.set_cons_succ]
                      refine wpAnyK_takeTo 2 (some 130) (.bool true) [] rfl rfl (by kernel_rfl) (by kernel_rfl) (by kernel_rfl) (by kernel_rfl) (fun _ _ _ h => h) hS (Or.inl ⟨rfl, fun w1 hw1 => by go_simp⟩) ?_
                      simp only [Act.put, List.setIfInBounds_toArray, List.set_cons_zero, List.set_cons_succ]
                      refine wpAnyK_takeTo 3 (some 131) (.slice (some ⟨gnow, 0, none⟩) 256 256) [] rfl rfl (by kernel_rfl) (by kernel_rfl) (by kernel_rfl) (by kernel_rfl) (fun _ _ _ h => h) hS (Or.inl ⟨rfl, fun w1 hw1 => by go_simp⟩) ?_
                      simp only [Act.put, List.setIfInBounds_toArray, List.set_cons_zero, List.set_cons_succ]
                      refine wpAnyK_takeTo 4 (some 132) (.string (strOf X)) [] rfl rfl (by kernel_rfl) (by kernel_rfl) (by kernel_rfl) (by kernel_rfl) (fun _ _ _ h => h) hS (Or.inl ⟨rfl, fun w1 hw1 => exec_string (.tmp 131) rfl rfl (bin_range hw1.1 hXl)⟩) ?_
                      simp only [Act.put, List.setIfInBounds_toArray, List.set_cons_zero, List.set_cons_succ]
                      refine wpAnyK_takeTo 5 (some 133) (.slice (some ⟨gold, 0, none⟩) 256 256) [] rfl rfl (by kernel_rfl) (by kernel_rfl) (by kernel_rfl) (by kernel_rfl) (fun _ _ _ h => h) hS (Or.inl ⟨rfl, fun w1 hw1 => by go_simp⟩) ?_
                      simp only [Act.put, List.setIfInBounds_toArray, List.set_cons_zero, List.set_cons_succ]
                      refine wpAnyK_takeTo 6 (some 134) (.string (strOf X)) [] rfl rfl (by kernel_rfl) (by kernel_rfl) (by kernel_rfl) (by kernel_rfl) (fun _ _ _ h => h) hS (Or.inl ⟨rfl, fun w1 hw1 => exec_string (.tmp 133) rfl rfl (bin_range hw1.2 hXl)⟩) ?_
                      simp only [Act.put, List.setIfInBounds_toArray, List.set_cons_zero, List.set_cons_succ]
                      refine wpAnyK_takeTo 7 (some 135) (.bool false) [] rfl rfl (by kernel_rfl) (by kernel_rfl) (by kernel_rfl) (by kernel_rfl) (fun _ _ _ h => h) hS (Or.inl ⟨rfl, fun w1 hw1 => by go_simp⟩) ?_
                      simp only [Act.put, List.setIfInBounds_toArray, List.set_cons_zero, List.set_cons_succ]
                      refine wpAnyK_takeTo 8 (some 136) (.bool false) [] rfl rfl (by kernel_rfl) (by kernel_rfl) (by kernel_rfl) (by kernel_rfl) (fun _ _ _ h => h) hS (Or.inl ⟨rfl, fun w1 hw1 => by go_simp⟩) ?_
                      simp only [Act.put, List.setIfInBounds_toArray, List.set_cons_zero, List.set_cons_succ]
                      refine wpAnyK_takeTo 9 (some 137) (.bool false) [] rfl rfl (by kernel_rfl) (by kernel_rfl) (by kernel_rfl) (by kernel_rfl) (fun _ _ _ h => h) hS (Or.inl ⟨rfl, fun w1 hw1 => by go_simp⟩) ?_
                      simp only [Act.put, List.setIfInBounds_toArray, List.set_cons_zero, List.set_cons_succ]
                      refine wpAnyK_takeTo 10 (some 138) (.bool false) [] rfl rfl (by kernel_rfl) (by kernel_rfl) (by kernel_rfl) (by kernel_rfl) (fun _ _ _ h => h) hS (Or.inl ⟨rfl, fun w1 hw1 => by go_simp⟩) ?_
                      simp only [Act.put, List.setIfInBounds_toArray, List.set_cons_zero, List.set_cons_succ]
                      refine wpAnyK_takeTo 11 (some 139) (.bool false) [] rfl rfl (by kernel_rfl) (by kernel_rfl) (by kernel_rfl) (by kernel_rfl) (fun _ _ _ h => h) hS (Or.inl ⟨rfl, fun w1 hw1 => by go_simp⟩) ?_
                      simp only [Act.put, List.setIfInBounds_toArray, List.set_cons_zero, List.set_cons_succ]
                      refine wpAnyK_takeTo 12 (some 140) (undef) [] rfl rfl (by kernel_rfl) (by kernel_rfl) (by kernel_rfl) (by kernel_rfl) (fun _ _ _ h => h) hS (Or.inr ⟨rfl, rfl⟩) ?_
                      simp only [Act.put, List.setIfInBounds_toArray, List.set_cons_zero, List.set_cons_succ]
                      refine wpAnyK_takeTo 13 (some 141) (undef) [] rfl rfl (by kernel_rfl) (by kernel_rfl) (by kernel_rfl) (by kernel_rfl) (fun _ _ _ h => h) hS (Or.inr ⟨rfl, rfl⟩) ?_
                      simp only [Act.put, List.setIfInBounds_toArray, List.set_cons_zero, List.set_cons_succ]
                      refine wpAnyK_takeTo 14 (some 142) (undef) [] rfl rfl (by kernel_rfl) (by kernel_rfl) (by kernel_rfl) (by kernel_rfl) (fun _ _ _ h => h) hS (Or.inr ⟨rfl, rfl⟩) ?_
                      simp only [Act.put, List.setIfInBounds_toArray, List.set_cons_zero, List.set_cons_succ]
                      refine wpAnyK_takeTo 15 (some 143) (undef) [] rfl rfl (by kernel_rfl) (by kernel_rfl) (by kernel_rfl) (by kernel_rfl) (fun _ _ _ h => h) hS (Or.inr ⟨rfl, rfl⟩) ?_
                      simp only [Act.put, List.setIfInBounds_toArray, List.set_cons_zero, List.set_cons_succ]
                      refine wpAnyK_takeTo 16 (some 144) (undef) [] rfl rfl (by kernel_rfl) (by kernel_rfl) (by kernel_rfl) (by kernel_rfl) (fun _ _ _ h => h) hS (Or.inr ⟨rfl, rfl⟩) ?_
                      simp only [Act.put, List.setIfInBounds_toArray, List.set_cons_zero, List.set_cons_succ]
                      refine wpAnyK_takeTo 17 (some 145) (undef) [] rfl rfl (by kernel_rfl) (by kernel_rfl) (by kernel_rfl) (by kernel_rfl) (fun _ _ _ h => h) hS (Or.inr ⟨rfl, rfl⟩) ?_
                      simp only [Act.put, List.setIfInBounds_toArray, List.set_cons_zero, List.set_cons_succ]
                      refine wpAnyK_takeTo 18 (some 146) (undef) [] rfl rfl (by kernel_rfl) (by kernel_rfl) (by kernel_rfl) (by kernel_rfl) (fun _ _ _ h => h) hS (Or.inr ⟨rfl, rfl⟩) ?_
                      simp only [Act.put, List.setIfInBounds_toArray, List.set_cons_zero, List.set_cons_succ]
                      refine wpAnyK_takeTo 19 (some 147) (undef) [] rfl rfl (by kernel_rfl) (by kernel_rfl) (by kernel_rfl) (by kernel_rfl) (fun _ _ _ h => h) hS (Or.inr ⟨rfl, rfl⟩) ?_
                      simp only [Act.put, List.setIfInBounds_toArray, List.set_cons_zero, List.set_cons_succ]
                      refine wpAnyK_takeTo 20 (some 148) (undef) [] rfl rfl (by kernel_rfl) (by kernel_rfl) (by kernel_rfl) (by kernel_rfl) (fun _ _ _ h => h) hS (Or.inr ⟨rfl, rfl⟩) ?_
                      simp only [Act.put, List.setIfInBounds_toArray, List.set_cons_zero, List.set_cons_succ]
                      refine wpAnyK_takeTo 21 (some 149) (undef) [] rfl rfl (by kernel_rfl) (by kernel_rfl) (by kernel_rfl) (by kernel_rfl) (fun _ _ _ h => h) hS (Or.inr ⟨rfl, rfl⟩) ?_
                      simp only [Act.put, List.setIfInBounds_toArray, List.set_cons_zero, List.set_cons_succ]
                      refine wpAnyK_takeTo 22 (some 150) (.bool false) [] rfl rfl (by kernel_rfl) (by kernel_rfl) (by kernel_rfl) (by kernel_rfl) (fun _ _ _ h => h) hS (Or.inl ⟨rfl, fun w1 hw1 => by go_simp⟩) ?_
                      simp only [Act.put, List.setIfInBounds_toArray, List.set_cons_zero, List.set_cons_succ]
                      refine wpAnyK_takeTo 23 (some 151) (.bool false) [] rfl rfl (by kernel_rfl) (by kernel_rfl) (by kernel_rfl) (by kernel_rfl) (fun _ _ _ h => h) hS (Or.inl ⟨rfl, fun w1 hw1 => by go_simp⟩) ?_
                      simp only [Act.put, List.setIfInBounds_toArray, List.set_cons_zero, List.set_cons_succ]
                      refine wpAnyK_done (by kernel_rfl) ?_ _
                      go_wp2
                      go_roundw
                      case rel => exact ⟨n + 1, by omega, by go_num, (HF8.out.trans (HF8B.out.trans (Fr.drew wB (fun _ => False)))).mono (by simp)⟩
                      case measure => simp [intOf]; omega
                    · have hkl3 : decide ((n : Int) < (kl : Int)) = false := by simp; omega
                      clear hkb hkB hnt
                      go_wp2_with fail
                      refine wp_region_K (fun _ => true) (fun W => W.rangeAt gnow 0 (enc X) ∧ W.rangeAt gold 0 (enc X)) (by kernel_rfl) ?_
                      have hS : wB.drew.rangeAt gnow 0 (enc X) ∧ wB.drew.rangeAt gold 0 (enc X) := ⟨by simpa using HRN.out, by simpa using HRO.out⟩
                      refine wpAnyK_takeTo 0 (some 128) (.bool false) [] rfl rfl (by kernel_rfl) (by kernel_rfl) (by kernel_rfl) (by kernel_rfl) (fun _ _ _ h => h) hS (Or.inl ⟨rfl, fun w1 hw1 => by go_simp⟩) ?_
                      simp only [Act.put, List.setIfInBounds_toArray, List.set_cons_zero, List.set_cons_succ]
                      refine wpAnyK_takeTo 1 (some 129) (.bool true) [] rfl rfl (by kernel_rfl) (by kernel_rfl) (by kernel_rfl) (by kernel_rfl) (fun _ _ _ h => h) hS (Or.inl ⟨rfl, fun w1 hw1 => by go_simp⟩) ?_
                      simp only [Act.put, List.setIfInBounds_toArray, List.set_cons_zero, List.set_cons_succ]
                      refine wpAnyK_takeTo 2 (some 130) (.bool true) [] rfl rfl (by kernel_rfl) (by kernel_rfl) (by kernel_rfl) (by kernel_rfl) (fun _ _ _ h => h) hS (Or.inl ⟨rfl, fun w1 hw1 => by go_simp⟩) ?_
                      simp only [Act.put, List.setIfInBounds_toArray, List.set_cons_zero, List.set_cons_succ]
                      refine wpAnyK_takeTo 3 (some 131) (.slice (some ⟨gnow, 0, none⟩) 256 256) [] rfl rfl (by kernel_rfl) (by kernel_rfl) (by kernel_rfl) (by kernel_rfl) (fun _ _ _ h => h) hS (Or.inl ⟨rfl, fun w1 hw1 => by go_simp⟩) ?_
                      simp only [Act.put, List.setIfInBounds_toArray, List.set_cons_zero, List.set_cons_succ]
                      refine wpAnyK_takeTo 4 (some 132) (.string (strOf X)) [] rfl rfl (by kernel_rfl) (by kernel_rfl) (by kernel_rfl) (by kernel_rfl) (fun _ _ _ h => h) hS (Or.inl ⟨rfl, fun w1 hw1 => exec_string (.tmp 131) rfl rfl (bin_range hw1.1 hXl)⟩) ?_
                      simp only [Act.put, List.setIfInBounds_toArray, List.set_cons_zero, List.set_cons_succ]
                      refine wpAnyK_takeTo 5 (some 133) (.slice (some ⟨gold, 0, none⟩) 256 256) [] rfl rfl (by kernel_rfl) (by kernel_rfl) (by kernel_rfl) (by kernel_rfl) (fun _ _ _ h => h) hS (Or.inl ⟨rfl, fun w1 hw1 => by go_simp⟩) ?_
                      simp only [Act.put, List.setIfInBounds_toArray, List.set_cons_zero, List.set_cons_succ]
                      refine wpAnyK_takeTo 6 (some 134) (.string (strOf X)) [] rfl rfl (by kernel_rfl) (by kernel_rfl) (by kernel_rfl) (by kernel_rfl) (fun _ _ _ h => h) hS (Or.inl ⟨rfl, fun w1 hw1 => exec_string (.tmp 133) rfl rfl (bin_range hw1.2 hXl)⟩) ?_
                      simp only [Act.put, List.setIfInBounds_toArray, List.set_cons_zero, List.set_cons_succ]
                      refine wpAnyK_takeTo 7 (some 135) (.bool false) [] rfl rfl (by kernel_rfl) (by kernel_rfl) (by kernel_rfl) (by kernel_rfl) (fun _ _ _ h => h) hS (Or.inl ⟨rfl, fun w1 hw1 => by go_simp⟩) ?_
                      simp only [Act.put, List.setIfInBounds_toArray, List.set_cons_zero, List.set_cons_succ]
                      refine wpAnyK_takeTo 8 (some 136) (.bool false) [] rfl rfl (by kernel_rfl) (by kernel_rfl) (by kernel_rfl) (by kernel_rfl) (fun _ _ _ h => h) hS (Or.inl ⟨rfl, fun w1 hw1 => by go_simp⟩) ?_
                      simp only [Act.put, List.setIfInBounds_toArray, List.set_cons_zero, List.set_cons_succ]
                      refine wpAnyK_takeTo 9 (some 137) (.bool false) [] rfl rfl (by kernel_rfl) (by kernel_rfl) (by kernel_rfl) (by kernel_rfl) (fun _ _ _ h => h) hS (Or.inl ⟨rfl, fun w1 hw1 => by go_simp⟩) ?_
                      simp only [Act.put, List.setIfInBounds_toArray, List.set_cons_zero, List.set_cons_succ]
                      refine wpAnyK_takeTo 10 (some 138) (.bool false) [] rfl rfl (by kernel_rfl) (by kernel_rfl) (by kernel_rfl) (by kernel_rfl) (fun _ _ _ h => h) hS (Or.inl ⟨rfl, fun w1 hw1 => by go_simp⟩) ?_
                      simp only [Act.put, List.setIfInBounds_toArray, List.set_cons_zero, List.set_cons_succ]
                      refine wpAnyK_takeTo 11 (some 139) (.bool false) [] rfl rfl (by kernel_rfl) (by kernel_rfl) (by kernel_rfl) (by kernel_rfl) (fun _ _ _ h => h) hS (Or.inl ⟨rfl, fun w1 hw1 => by go_simp⟩) ?_
                      simp only [Act.put, List.setIfInBounds_toArray, List.set_cons_zero, List.set_cons_succ]
                      refine wpAnyK_takeTo 12 (some 140) (undef) [] rfl rfl (by kernel_rfl) (by kernel_rfl) (by kernel_rfl) (by kernel_rfl) (fun _ _ _ h => h) hS (Or.inr ⟨rfl, rfl⟩) ?_
                      simp only [Act.put, List.setIfInBounds_toArray, List.set_cons_zero, List.set_cons_succ]
                      refine wpAnyK_takeTo 13 (some 141) (undef) [] rfl rfl (by kernel_rfl) (by kernel_rfl) (by kernel_rfl) (by kernel_rfl) (fun _ _ _ h => h) hS (Or.inr ⟨rfl, rfl⟩) ?_
                      simp only [Act.put, List.setIfInBounds_toArray, List.set_cons_zero, List.set_cons_succ]
                      refine wpAnyK_takeTo 14 (some 142) (undef) [] rfl rfl (by kernel_rfl) (by kernel_rfl) (by kernel_rfl) (by kernel_rfl) (fun _ _ _ h => h) hS (Or.inr ⟨rfl, rfl⟩) ?_
                      simp only [Act.put, List.setIfInBounds_toArray, List.set_cons_zero, List.set_cons_succ]
                      refine wpAnyK_takeTo 15 (some 143) (undef) [] rfl rfl (by kernel_rfl) (by kernel_rfl) (by kernel_rfl) (by kernel_rfl) (fun _ _ _ h => h) hS (Or.inr ⟨rfl, rfl⟩) ?_
                      simp only [Act.put, List.setIfInBounds_toArray, List.set_cons_zero, List.set_cons_succ]
                      refine wpAnyK_takeTo 16 (some 144) (undef) [] rfl rfl (by kernel_rfl) (by kernel_rfl) (by kernel_rfl) (by kernel_rfl) (fun _ _ _ h => h) hS (Or.inr ⟨rfl, rfl⟩) ?_
                      simp only [Act.put, List.setIfInBounds_toArray, List.set_cons_zero, List.set_cons_succ]
                      refine wpAnyK_takeTo 17 (some 145) (undef) [] rfl rfl (by kernel_rfl) (by kernel_rfl) (by kernel_rfl) (by kernel_rfl) (fun _ _ _ h => h) hS (Or.inr ⟨rfl, rfl⟩) ?_
                      simp only [Act.put, List.setIfInBounds_toArray, List.set_cons_zero, List.set_cons_succ]
                      refine wpAnyK_takeTo 18 (some 146) (undef) [] rfl rfl (by kernel_rfl) (by kernel_rfl) (by kernel_rfl) (by kernel_rfl) (fun _ _ _ h => h) hS (Or.inr ⟨rfl, rfl⟩) ?_
                      simp only [Act.put, List.setIfInBounds_toArray, List.set_cons_zero, List.set_cons_succ]
                      refine wpAnyK_takeTo 19 (some 147) (undef) [] rfl rfl (by kernel_rfl) (by kernel_rfl) (by kernel_rfl) (by kernel_rfl) (fun _ _ _ h => h) hS (Or.inr ⟨rfl, rfl⟩) ?_
                      simp only [Act.put, List.setIfInBounds_toArray, List.set_cons_zero, List.set_cons_succ]
                      refine wpAnyK_takeTo 20 (some 148) (undef) [] rfl rfl (by kernel_rfl) (by kernel_rfl) (by kernel_rfl) (by kernel_rfl) (fun _ _ _ h => h) hS (Or.inr ⟨rfl, rfl⟩) ?_
                      simp only [Act.put, List.setIfInBounds_toArray, List.set_cons_zero, List.set_cons_succ]
                      refine wpAnyK_takeTo 21 (some 149) (undef) [] rfl rfl (by kernel_rfl) (by kernel_rfl) (by kernel_rfl) (by kernel_rfl) (fun _ _ _ h => h) hS (Or.inr ⟨rfl, rfl⟩) ?_
                      simp only [Act.put, List.setIfInBounds_toArray, List.set_cons_zero, List.set_cons_succ]
                      refine wpAnyK_takeTo 22 (some 150) (.bool false) [] rfl rfl (by kernel_rfl) (by kernel_rfl) (by kernel_rfl) (by kernel_rfl) (fun _ _ _ h => h) hS (Or.inl ⟨rfl, fun w1 hw1 => by go_simp⟩) ?_
                      simp only [Act.put, List.setIfInBounds_toArray, List.set_cons_zero, List.set_cons_succ]
                      refine wpAnyK_takeTo 23 (some 151) (.bool false) [] rfl rfl (by kernel_rfl) (by kernel_rfl) (by kernel_rfl) (by kernel_rfl) (fun _ _ _ h => h) hS (Or.inl ⟨rfl, fun w1 hw1 => by go_simp⟩) ?_
                      simp only [Act.put, List.setIfInBounds_toArray, List.set_cons_zero, List.set_cons_succ]
                      refine wpAnyK_done (by kernel_rfl) ?_ _
                      go_wp2
                      go_roundw
                      case rel => exact ⟨n + 1, by omega, by go_num, (HF8.out.trans (HF8B.out.trans (Fr.drew wB (fun _ => False)))).mono (by simp)⟩
                      case measure => simp [intOf]; omega
              · have hw1 : decide ((n : Int) < (len0 : Int)) = false := by simp; omega
                have hXX : S2.getD n [] = S1.getD n [] := by rw [HSAT.out n hn8, if_neg hwr]
                obtain ⟨X, hX⟩ : ∃ X, X = S1.getD n [] := ⟨_, rfl⟩
                rw [hXX, ← hX] at HRN
                rw [← hX] at HRO
                have hXl : X.length = 256 := by rw [hX]; exact hX1
                clear hX hXX hX1 hkB
                by_cases hnt : (n : Int) = t0
                · have hq : ((n : Int) == t0) = true := by simp [hnt]
                  clear hnt
                  go_wp2_with fail
                  refine wp_region_K (fun _ => true) (fun W => W.rangeAt gnow 0 (enc X) ∧ W.rangeAt gold 0 (enc X)) (by kernel_rfl) ?_
                  have hS : wB.drew.rangeAt gnow 0 (enc X) ∧ wB.drew.rangeAt gold 0 (enc X) := ⟨by simpa using HRN.out, by simpa using HRO.out⟩
                  refine wpAnyK_takeTo 0 (some 128) (.bool false) [] rfl rfl (by kernel_rfl) (by kernel_rfl) (by kernel_rfl) (by kernel_rfl) (fun _ _ _ h => h) hS (Or.inl ⟨rfl, fun w1 hw1 => by go_simp⟩) ?_
                  simp only [Act.put, List.setIfInBounds_toArray, List.set_cons_zero, List.set_cons_succ]
                  refine wpAnyK_takeTo 1 (some 129) (.bool true) [] rfl rfl (by kernel_rfl) (by kernel_rfl) (by kernel_rfl) (by kernel_rfl) (fun _ _ _ h => h) hS (Or.inl ⟨rfl, fun w1 hw1 => by go_simp⟩) ?_
                  simp only [Act.put, List.setIfInBounds_toArray, List.set_cons_zero, List.set_cons_succ]
                  refine wpAnyK_takeTo 2 (some 130) (.bool true) [] rfl rfl (by kernel_rfl) (by kernel_rfl) (by kernel_rfl) (by kernel_rfl) (fun _ _ _ h => h) hS (Or.inl ⟨rfl, fun w1 hw1 => by go_simp⟩) ?_
                  simp only [Act.put, List.setIfInBounds_toArray, List.set_cons_zero, List.set_cons_succ]
                  refine wpAnyK_takeTo 3 (some 131) (.slice (some ⟨gnow, 0, none⟩) 256 256) [] rfl rfl (by kernel_rfl) (by kernel_rfl) (by kernel_rfl) (by kernel_rfl) (fun _ _ _ h => h) hS (Or.inl ⟨rfl, fun w1 hw1 => by go_simp⟩) ?_
                  simp only [Act.put, List.setIfInBounds_toArray, List.set_cons_zero, List.set_cons_succ]
                  refine wpAnyK_takeTo 4 (some 132) (.string (strOf X)) [] rfl rfl (by kernel_rfl) (by kernel_rfl) (by kernel_rfl) (by kernel_rfl) (fun _ _ _ h => h) hS (Or.inl ⟨rfl, fun w1 hw1 => exec_string (.tmp 131) rfl rfl (bin_range hw1.1 hXl)⟩) ?_
                  simp only [Act.put, List.setIfInBounds_toArray, List.set_cons_zero, List.set_cons_succ]
                  refine wpAnyK_takeTo 5 (some 133) (.slice (some ⟨gold, 0, none⟩) 256 256) [] rfl rfl (by kernel_rfl) (by kernel_rfl) (by kernel_rfl) (by kernel_rfl) (fun _ _ _ h => h) hS (Or.inl ⟨rfl, fun w1 hw1 => by go_simp⟩) ?_
                  simp only [Act.put, List.setIfInBounds_toArray, List.set_cons_zero, List.set_cons_succ]
                  refine wpAnyK_takeTo 6 (some 134) (.string (strOf X)) [] rfl rfl (by kernel_rfl) (by kernel_rfl) (by kernel_rfl) (by kernel_rfl) (fun _ _ _ h => h) hS (Or.inl ⟨rfl, fun w1 hw1 => exec_string (.tmp 133) rfl rfl (bin_range hw1.2 hXl)⟩) ?_
                  simp only [Act.put, List.setIfInBounds_toArray, List.set_cons_zero, List.set_cons_succ]
                  refine wpAnyK_takeTo 7 (some 135) (.bool false) [] rfl rfl (by kernel_rfl) (by kernel_rfl) (by kernel_rfl) (by kernel_rfl) (fun _ _ _ h => h) hS (Or.inl ⟨rfl, fun w1 hw1 => by go_simp⟩) ?_
                  simp only [Act.put, List.setIfInBounds_toArray, List.set_cons_zero, List.set_cons_succ]
                  refine wpAnyK_takeTo 8 (some 136) (.bool false) [] rfl rfl (by kernel_rfl) (by kernel_rfl) (by kernel_rfl) (by kernel_rfl) (fun _ _ _ h => h) hS (Or.inl ⟨rfl, fun w1 hw1 => by go_simp⟩) ?_
                  simp only [Act.put, List.setIfInBounds_toArray, List.set_cons_zero, List.set_cons_succ]
                  refine wpAnyK_takeTo 9 (some 137) (.bool false) [] rfl rfl (by kernel_rfl) (by kernel_rfl) (by kernel_rfl) (by kernel_rfl) (fun _ _ _ h => h) hS (Or.inl ⟨rfl, fun w1 hw1 => by go_simp⟩) ?_
                  simp only [Act.put, List.setIfInBounds_toArray, List.set_cons_zero, List.set_cons_succ]
                  refine wpAnyK_takeTo 10 (some 138) (.bool false) [] rfl rfl (by kernel_rfl) (by kernel_rfl) (by kernel_rfl) (by kernel_rfl) (fun _ _ _ h => h) hS (Or.inl ⟨rfl, fun w1 hw1 => by go_simp⟩) ?_
                  simp only [Act.put, List.setIfInBounds_toArray, List.set_cons_zero, List.set_cons_succ]
                  refine wpAnyK_takeTo 11 (some 139) (.bool false) [] rfl rfl (by kernel_rfl) (by kernel_rfl) (by kernel_rfl) (by kernel_rfl) (fun _ _ _ h => h) hS (Or.inl ⟨rfl, fun w1 hw1 => by go_simp⟩) ?_
                  simp only [Act.put, List.setIfInBounds_toArray, List.set_cons_zero, List.set_cons_succ]
                  refine wpAnyK_takeTo 12 (some 140) (undef) [] rfl rfl (by kernel_rfl) (by kernel_rfl) (by kernel_rfl) (by kernel_rfl) (fun _ _ _ h => h) hS (Or.inr ⟨rfl, rfl⟩) ?_
                  simp only [Act.put, List.setIfInBounds_toArray, List.set_cons_zero, List.set_cons_succ]
                  refine wpAnyK_takeTo 13 (some 141) (undef) [] rfl rfl (by kernel_rfl) (by kernel_rfl) (by kernel_rfl) (by kernel_rfl) (fun _ _ _ h => h) hS (Or.inr ⟨rfl, rfl⟩) ?_
                  simp only [Act.put, List.setIfInBounds_toArray, List.set_cons_zero, List.set_cons_succ]
                  refine wpAnyK_takeTo 14 (some 142) (undef) [] rfl rfl (by kernel_rfl) (by kernel_rfl) (by kernel_rfl) (by kernel_rfl) (fun _ _ _ h => h) hS (Or.inr ⟨rfl, rfl⟩) ?_
                  simp only [Act.put, List.setIfInBounds_toArray, List.set_cons_zero, List.set_cons_succ]
                  refine wpAnyK_takeTo 15 (some 143) (undef) [] rfl rfl (by kernel_rfl) (by kernel_rfl) (by kernel_rfl) (by kernel_rfl) (fun _ _ _ h => h) hS (Or.inr ⟨rfl, rfl⟩) ?_
                  simp only [Act.put, List.setIfInBounds_toArray, List.set_cons_zero, List.set_cons_succ]
                  refine wpAnyK_takeTo 16 (some 144) (undef) [] rfl rfl (by kernel_rfl) (by kernel_rfl) (by kernel_rfl) (by kernel_rfl) (fun _ _ _ h => h) hS (Or.inr ⟨rfl, rfl⟩) ?_
                  simp only [Act.put, List.setIfInBounds_toArray, List.set_cons_zero, List.set_cons_succ]
                  refine wpAnyK_takeTo 17 (some 145) (undef) [] rfl rfl (by kernel_rfl) (by kernel_rfl) (by kernel_rfl) (by kernel_rfl) (fun _ _ _ h => h) hS (Or.inr ⟨rfl, rfl⟩) ?_
                  simp only [Act.put, List.setIfInBounds_toArray, List.set_cons_zero, List.set_cons_succ]
                  refine wpAnyK_takeTo 18 (some 146) (undef) [] rfl rfl (by kernel_rfl) (by kernel_rfl) (by kernel_rfl) (by kernel_rfl) (fun _ _ _ h => h) hS (Or.inr ⟨rfl, rfl⟩) ?_
                  simp only [Act.put, List.setIfInBounds_toArray, List.set_cons_zero, List.set_cons_succ]
                  refine wpAnyK_takeTo 19 (some 147) (undef) [] rfl rfl (by kernel_rfl) (by kernel_rfl) (by kernel_rfl) (by kernel_rfl) (fun _ _ _ h => h) hS (Or.inr ⟨rfl, rfl⟩) ?_
                  simp only [Act.put, List.setIfInBounds_toArray, List.set_cons_zero, List.set_cons_succ]
                  refine wpAnyK_takeTo 20 (some 148) (undef) [] rfl rfl (by kernel_rfl) (by kernel_rfl) (by kernel_rfl) (by kernel_rfl) (fun _ _ _ h => h) hS (Or.inr ⟨rfl, rfl⟩) ?_
                  simp only [Act.put, List.setIfInBounds_toArray, List.set_cons_zero, List.set_cons_succ]
                  refine wpAnyK_takeTo 21 (some 149) (undef) [] rfl rfl (by kernel_rfl) (by kernel_rfl) (by kernel_rfl) (by kernel_rfl) (fun _ _ _ h => h) hS (Or.inr ⟨rfl, rfl⟩) ?_
                  simp only [Act.put, List.setIfInBounds_toArray, List.set_cons_zero, List.set_cons_succ]
                  refine wpAnyK_takeTo 22 (some 150) (.bool false) [] rfl rfl (by kernel_rfl) (by kernel_rfl) (by kernel_rfl) (by kernel_rfl) (fun _ _ _ h => h) hS (Or.inl ⟨rfl, fun w1 hw1 => by go_simp⟩) ?_
                  simp only [Act.put, List.setIfInBounds_toArray, List.set_cons_zero, List.set_cons_succ]
                  refine wpAnyK_takeTo 23 (some 151) (.bool false) [] rfl rfl (by kernel_rfl) (by kernel_rfl) (by kernel_rfl) (by kernel_rfl) (fun _ _ _ h => h) hS (Or.inl ⟨rfl, fun w1 hw1 => by go_simp⟩) ?_
                  simp only [Act.put, List.setIfInBounds_toArray, List.set_cons_zero, List.set_cons_succ]
                  refine wpAnyK_done (by kernel_rfl) ?_ _
                  go_wp2
                  go_roundw
                  case rel => exact ⟨n + 1, by omega, by go_num, (HF8.out.trans (HF8B.out.trans (Fr.drew wB (fun _ => False)))).mono (by simp)⟩
                  case measure => simp [intOf]; omega
                · have hq : ((n : Int) == t0) = false := by simp [hnt]
                  clear hnt
                  go_wp2_with fail
                  refine wp_region_K (fun _ => true) (fun W => W.rangeAt gnow 0 (enc X) ∧ W.rangeAt gold 0 (enc X)) (by kernel_rfl) ?_
                  have hS : wB.drew.rangeAt gnow 0 (enc X) ∧ wB.drew.rangeAt gold 0 (enc X) := ⟨by simpa using HRN.out, by simpa using HRO.out⟩
                  refine wpAnyK_takeTo 0 (some 128) (.bool false) [] rfl rfl (by kernel_rfl) (by kernel_rfl) (by kernel_rfl) (by kernel_rfl) (fun _ _ _ h => h) hS (Or.inl ⟨rfl, fun w1 hw1 => by go_simp⟩) ?_
                  simp only [Act.put, List.setIfInBounds_toArray, List.set_cons_zero, List.set_cons_succ]
                  refine wpAnyK_takeTo 1 (some 129) (.bool true) [] rfl rfl (by kernel_rfl) (by kernel_rfl) (by kernel_rfl) (by kernel_rfl) (fun _ _ _ h => h) hS (Or.inl ⟨rfl, fun w1 hw1 => by go_simp⟩) ?_
                  simp only [Act.put, List.setIfInBounds_toArray, List.set_cons_zero, List.set_cons_succ]
                  refine wpAnyK_takeTo 2 (some 130) (.bool true) [] rfl rfl (by kernel_rfl) (by kernel_rfl) (by kernel_rfl) (by kernel_rfl) (fun _ _ _ h => h) hS (Or.inl ⟨rfl, fun w1 hw1 => by go_simp⟩) ?_
                  simp only [Act.put, List.setIfInBounds_toArray, List.set_cons_zero, List.set_cons_succ]
                  refine wpAnyK_takeTo 3 (some 131) (.slice (some ⟨gnow, 0, none⟩) 256 256) [] rfl rfl (by kernel_rfl) (by kernel_rfl) (by kernel_rfl) (by kernel_rfl) (fun _ _ _ h => h) hS (Or.inl ⟨rfl, fun w1 hw1 => by go_simp⟩) ?_
                  simp only [Act.put, List.setIfInBounds_toArray, List.set_cons_zero, List.set_cons_succ]
                  refine wpAnyK_takeTo 4 (some 132) (.string (strOf X)) [] rfl rfl (by kernel_rfl) (by kernel_rfl) (by kernel_rfl) (by kernel_rfl) (fun _ _ _ h => h) hS (Or.inl ⟨rfl, fun w1 hw1 => exec_string (.tmp 131) rfl rfl (bin_range hw1.1 hXl)⟩) ?_
                  simp only [Act.put, List.setIfInBounds_toArray, List.set_cons_zero, List.set_cons_succ]
                  refine wpAnyK_takeTo 5 (some 133) (.slice (some ⟨gold, 0, none⟩) 256 256) [] rfl rfl (by kernel_rfl) (by kernel_rfl) (by kernel_rfl) (by kernel_rfl) (fun _ _ _ h => h) hS (Or.inl ⟨rfl, fun w1 hw1 => by go_simp⟩) ?_
                  simp only [Act.put, List.setIfInBounds_toArray, List.set_cons_zero, List.set_cons_succ]
                  refine wpAnyK_takeTo 6 (some 134) (.string (strOf X)) [] rfl rfl (by kernel_rfl) (by kernel_rfl) (by kernel_rfl) (by kernel_rfl) (fun _ _ _ h => h) hS (Or.inl ⟨rfl, fun w1 hw1 => exec_string (.tmp 133) rfl rfl (bin_range hw1.2 hXl)⟩) ?_
                  simp only [Act.put, List.setIfInBounds_toArray, List.set_cons_zero, List.set_cons_succ]
                  refine wpAnyK_takeTo 7 (some 135) (.bool false) [] rfl rfl (by kernel_rfl) (by kernel_rfl) (by kernel_rfl) (by kernel_rfl) (fun _ _ _ h => h) hS (Or.inl ⟨rfl, fun w1 hw1 => by go_simp⟩) ?_
                  simp only [Act.put, List.setIfInBounds_toArray, List.set_cons_zero, List.set_cons_succ]
                  refine wpAnyK_takeTo 8 (some 136) (.bool false) [] rfl rfl (by kernel_rfl) (by kernel_rfl) (by kernel_rfl) (by kernel_rfl) (fun _ _ _ h => h) hS (Or.inl ⟨rfl, fun w1 hw1 => by go_simp⟩) ?_
                  simp only [Act.put, List.setIfInBounds_toArray, List.set_cons_zero, List.set_cons_succ]
                  refine wpAnyK_takeTo 9 (some 137) (.bool false) [] rfl rfl (by kernel_rfl) (by kernel_rfl) (by kernel_rfl) (by kernel_rfl) (fun _ _ _ h => h) hS (Or.inl ⟨rfl, fun w1 hw1 => by go_simp⟩) ?_
                  simp only [Act.put, List.setIfInBounds_toArray, List.set_cons_zero, List.set_cons_succ]
                  refine wpAnyK_takeTo 10 (some 138) (.bool false) [] rfl rfl (by kernel_rfl) (by kernel_rfl) (by kernel_rfl) (by kernel_rfl) (fun _ _ _ h => h) hS (Or.inl ⟨rfl, fun w1 hw1 => by go_simp⟩) ?_
                  simp only [Act.put, List.setIfInBounds_toArray, List.set_cons_zero, List.set_cons_succ]
                  refine wpAnyK_takeTo 11 (some 139) (.bool false) [] rfl rfl (by kernel_rfl) (by kernel_rfl) (by kernel_rfl) (by kernel_rfl) (fun _ _ _ h => h) hS (Or.inl ⟨rfl, fun w1 hw1 => by go_simp⟩) ?_
                  simp only [Act.put, List.setIfInBounds_toArray, List.set_cons_zero, List.set_cons_succ]
                  refine wpAnyK_takeTo 12 (some 140) (undef) [] rfl rfl (by kernel_rfl) (by kernel_rfl) (by kernel_rfl) (by kernel_rfl) (fun _ _ _ h => h) hS (Or.inr ⟨rfl, rfl⟩) ?_
                  simp only [Act.put, List.setIfInBounds_toArray, List.set_cons_zero, List.set_cons_succ]
                  refine wpAnyK_takeTo 13 (some 141) (undef) [] rfl rfl (by kernel_rfl) (by kernel_rfl) (by kernel_rfl) (by kernel_rfl) (fun _ _ _ h => h) hS (Or.inr ⟨rfl, rfl⟩) ?_
                  simp only [Act.put, List.setIfInBounds_toArray, List.set_cons_zero, List.set_cons_succ]
                  refine wpAnyK_takeTo 14 (some 142) (undef) [] rfl rfl (by kernel_rfl) (by kernel_rfl) (by kernel_rfl) (by kernel_rfl) (fun _ _ _ h => h) hS (Or.inr ⟨rfl, rfl⟩) ?_
                  simp only [Act.put, List.setIfInBounds_toArray, List.set_cons_zero, List.set_cons_succ]
                  refine wpAnyK_takeTo 15 (some 143) (undef) [] rfl rfl (by kernel_rfl) (by kernel_rfl) (by kernel_rfl) (by kernel_rfl) (fun _ _ _ h => h) hS (Or.inr ⟨rfl, rfl⟩) ?_
                  simp only [Act.put, List.setIfInBounds_toArray, List.set_cons_zero, List.set_cons_succ]
                  refine wpAnyK_takeTo 16 (some 144) (undef) [] rfl rfl (by kernel_rfl) (by kernel_rfl) (by kernel_rfl) (by kernel_rfl) (fun _ _ _ h => h) hS (Or.inr ⟨rfl, rfl⟩) ?_
                  simp only [Act.put, List.setIfInBounds_toArray, List.set_cons_zero, List.set_cons_succ]
                  refine wpAnyK_takeTo 17 (some 145) (undef) [] rfl rfl (by kernel_rfl) (by kernel_rfl) (by kernel_rfl) (by kernel_rfl) (fun _ _ _ h => h) hS (Or.inr ⟨rfl, rfl⟩) ?_
                  simp only [Act.put, List.setIfInBounds_toArray, List.set_cons_zero, List.set_cons_succ]
                  refine wpAnyK_takeTo 18 (some 146) (undef) [] rfl rfl (by kernel_rfl) (by kernel_rfl) (by kernel_rfl) (by kernel_rfl) (fun _ _ _ h => h) hS (Or.inr ⟨rfl, rfl⟩) ?_
                  simp only [Act.put, List.setIfInBounds_toArray, List.set_cons_zero, List.set_cons_succ]
                  refine wpAnyK_takeTo 19 (some 147) (undef) [] rfl rfl (by kernel_rfl) (by kernel_rfl) (by kernel_rfl) (by kernel_rfl) (fun _ _ _ h => h) hS (Or.inr ⟨rfl, rfl⟩) ?_
                  simp only [Act.put, List.setIfInBounds_toArray, List.set_cons_zero, List.set_cons_succ]
                  refine wpAnyK_takeTo 20 (some 148) (undef) [] rfl rfl (by kernel_rfl) (by kernel_rfl) (by kernel_rfl) (by kernel_rfl) (fun _ _ _ h => h) hS (Or.inr ⟨rfl, rfl⟩) ?_
                  simp only [Act.put, List.setIfInBounds_toArray, List.set_cons_zero, List.set_cons_succ]
                  refine wpAnyK_takeTo 21 (some 149) (undef) [] rfl rfl (by kernel_rfl) (by kernel_rfl) (by kernel_rfl) (by kernel_rfl) (fun _ _ _ h => h) hS (Or.inr ⟨rfl, rfl⟩) ?_
                  simp only [Act.put, List.setIfInBounds_toArray, List.set_cons_zero, List.set_cons_succ]
                  refine wpAnyK_takeTo 22 (some 150) (.bool false) [] rfl rfl (by kernel_rfl) (by kernel_rfl) (by kernel_rfl) (by kernel_rfl) (fun _ _ _ h => h) hS (Or.inl ⟨rfl, fun w1 hw1 => by go_simp⟩) ?_
                  simp only [Act.put, List.setIfInBounds_toArray, List.set_cons_zero, List.set_cons_succ]
                  refine wpAnyK_takeTo 23 (some 151) (.bool false) [] rfl rfl (by kernel_rfl) (by kernel_rfl) (by kernel_rfl) (by kernel_rfl) (fun _ _ _ h => h) hS (Or.inl ⟨rfl, fun w1 hw1 => by go_simp⟩) ?_
                  simp only [Act.put, List.setIfInBounds_toArray, List.set_cons_zero, List.set_cons_succ]
                  refine wpAnyK_done (by kernel_rfl) ?_ _
                  go_wp2
                  go_roundw
                  case rel => exact ⟨n + 1, by omega, by go_num, (HF8.out.trans (HF8B.out.trans (Fr.drew wB (fun _ => False)))).mono (by simp)⟩
                  case measure => simp [intOf]; omega
            · have hn9 : decide ((n : Int) < 8) = false := by simp; omega
              have c81 := HD8.out.cell1
              go_wp2_with fail
              refine (pending_any _ _ _ _ _ c81).mono ?_
              rintro e w8' ⟨rfl, h4⟩
              obtain rfl := h4.symm
              clear h4 c81
              go_wp2
              go_ret
              refine ⟨rfl, ?_⟩
              exact ((HF00.out.trans FB8.out).mono (Y := fun k => w.heap.size ≤ k) (by
                have := HS0.out
                rintro q _ (h2 | h2)
                · exact h2.elim
                · omega)).below (Nat.le_refl _) (fun k hk => hk)

end Go.Proofs.Ytdbchicanlglhaa
