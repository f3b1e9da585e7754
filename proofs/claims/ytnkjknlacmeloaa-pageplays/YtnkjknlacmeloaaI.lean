/- The page's walks: noughts, take, Open. -/
import Derived.Test.YtnkjknlacmeloaaH
namespace Go.Proofs.Ytnkjknlacmeloaa
open Go.RowKit
set_option linter.unusedVariables false

theorem run_tailZ (a : Option Addr) (n c k : Nat) (z : Int) (hz : z = k) (hk : k ≤ n) (hnc : n ≤ c) :
    ∃ a' c', (∀ W, (Instr.slice 29 (.slice a n c) (some (.int .i64 z)) none none).run Try.prog W = .ok (.slice a' (n - k) c') W) ∧ (∀ W l, BI W a n l → BI W a' (n - k) (l.drop k)) ∧ n - k ≤ c' := by
  subst hz
  exact run_tail a n c k hk hnc
/-- What lies between two places of a slice. -/
theorem run_mid (a : Option Addr) (n c k m : Nat) (hk : k + m ≤ n) (hnc : n ≤ c) (lo hi : Int) (h1 : lo = k) (h2 : hi = k + m) :
    ∃ a', (∀ W, (Instr.slice 29 (.slice a n c) (some (.int .i64 lo)) (some (.int .i64 hi)) none).run Try.prog W = .ok (.slice a' m (c - k)) W) ∧ (∀ W l, BI W a n l → BI W a' m ((l.drop k).take m)) := by
  subst h1
  subst h2
  refine ⟨if c = k then a else a.map (·.add k), fun W => ?_, fun W l h => ?_⟩
  · rw [run_slice_lh (P := Try.prog) W 29 a n c ht22 .i64 .i64 (k : Int) ((k : Int) + m) (by omega) (by omega) (by omega), size_elem22]
    simp only [Result.andThen_ok, sliced, Int.toNat_natCast, Nat.mul_one]
    congr 2
    omega
  · refine ⟨by rw [List.length_take, List.length_drop, h.1]; omega, ?_⟩
    by_cases h0 : m = 0
    · exact .inl h0
    · right
      obtain ⟨g, off, rfl, hc⟩ := h.2.resolve_left (by omega)
      rw [if_neg (by omega)]
      refine ⟨g, off + k, by simp [Addr.add_mid], fun j u hu => ?_⟩
      rw [List.getElem?_take] at hu
      split at hu
      · rw [List.getElem?_drop] at hu
        have := hc (k + j) u hu
        rwa [← Nat.add_assoc] at this
      · cases hu

/-- Noughts alone. -/
def noughtsB (l : List UInt8) : Bool := l.all (· == 0)
set_option maxHeartbeats 1000000 in
theorem noughts_any (w : World) (a : Option Addr) (n c : Nat) (l : List UInt8) (hb : BI w a n l) (hn : n ≤ 140737488355328) :
    Calls Try.prog 29 #[.slice a n c] w fun e w' => e = .returned (.bool (noughtsB l)) ∧ w' = w := by
  have HB := hide hb
  clear hb
  go_enter Try.func29, Try.ntmps29
  go_wp2
  go_loopw [7] (fun i wr => ∃ k : Nat, k ≤ n ∧ i = .int .i64 k ∧ noughtsB (l.take k) = true ∧ wr = w) (fun i _ => n - (intOf i).toNat)
  case atStart => exact ⟨0, by omega, rfl, rfl, rfl⟩
  case round =>
    obtain ⟨k, hk, rfl, hz, rfl⟩ := hrel
    have HZ := hide hz
    clear hz
    by_cases hkn : k < n
    · obtain ⟨g, off, u, rfl, hu, hcell⟩ := HB.out.get (Fr.refl _ _) k hkn
      have HU := hide hu
      clear hu
      by_cases h0 : u = 0
      · have hu0 : u.toNat = 0 := by rw [h0]; rfl
        go_wp2
        go_roundw
        case rel =>
          refine ⟨k + 1, by omega, by go_num, ?_, trivial⟩
          rw [List.take_add_one, HU.out, Option.toList_some, noughtsB, List.all_append]
          simp [h0]
          simpa [noughtsB] using HZ.out
        case measure => simp [intOf]; omega
      · have hu0 : ((u.toNat : Int) != 0) = true := by
          simp
          intro h
          exact h0 (UInt8.toNat_inj.1 (by simpa using h))
        go_wp2
        go_ret
        refine ⟨?_, rfl⟩
        have : noughtsB l = false := by
          unfold noughtsB
          rw [List.all_eq_false]
          exact ⟨u, List.mem_of_getElem? HU.out, by simpa using h0⟩
        rw [this]
        rfl
    · obtain rfl : k = n := by omega
      go_wp2
      go_ret
      refine ⟨?_, rfl⟩
      have h1 := HZ.out
      rw [← HB.out.1, List.take_length] at h1
      rw [h1]
      rfl

theorem addIn {w : World} {b : Nat} {F : Nat → Prop} {R : List (List UInt8)} {m : Int} (h : PageIn w b F R m) (a : Option Addr) (n c : Nat) (r : List UInt8) (hb : BI w a n r) (hl : n ≤ 200) (hf : usedP R + (1 + n) ≤ 256) :
    Calls Try.prog 23 #[.pointer (some ⟨b, 0, none⟩), .slice a n c] w fun e w' => e = .returned (.tuple #[.int .i64 R.length, .int .i64 0]) ∧ PageIn w' b (fun k => F k ∨ w.heap.size ≤ k) (R ++ [r]) m ∧ Fr w w' F := by
  obtain ⟨v, gs, h1, h2⟩ := h
  refine (add_ok w b v gs R m h1 a n c r hb hl hf).mono ?_
  rintro e w' ⟨he, v', gs', p1, p2, p3⟩
  exact ⟨he, ⟨v', gs', p1, fun k hk => (p3 k hk).imp (h2 k) id⟩, p2.mono (fun k _ hk => h2 k (hk.imp id (fun h => .inl h)))⟩

/-- What take leaves. -/
def Taken (W0 : World) (b : Nat) (m : Int) (e : Ending) (w' : World) : Option (List (List UInt8) × List UInt8) → Prop
  | none => e = .returned (.tuple #[.slice none 0 0, .bool false])
  | some (R, rest) => ∃ a' c', e = .returned (.tuple #[.slice a' rest.length c', .bool true]) ∧ BI W0 a' rest.length rest ∧ PageIn w' b (fun k => W0.heap.size ≤ k) R m

set_option maxHeartbeats 2000000 in
theorem take_any (W0 w : World) (b : Nat) (m : Int) (a : Option Addr) (c : Nat) (l : List UInt8) (count : Nat) (hcn : count ≤ 255) (hfr : Fr W0 w (fun _ => False)) (hp : PageIn w b (fun k => W0.heap.size ≤ k) [] m) (hb : BI W0 a l.length l) (hl : l.length = 243) (hlc : l.length ≤ c) :
    Calls Try.prog 28 #[.pointer (some ⟨b, 0, none⟩), .slice a l.length c, .int .i64 count] w fun e w' => Taken W0 b m e w' (takeRecs count l) ∧ Fr W0 w' (fun _ => False) := by
  have HF := hide hfr
  have HP := hide hp
  have HB := hide hb
  clear hfr hp hb
  go_enter Try.func28, Try.ntmps28
  go_wp2
  go_loopw [1, 12] (fun x i wr => ∃ (k : Nat) (R : List (List UInt8)) (rest : List UInt8) (a' : Option Addr) (c' : Nat), k ≤ count ∧ i = .int .i64 k ∧ x = .slice a' rest.length c' ∧ rest.length ≤ c' ∧ BI W0 a' rest.length rest ∧ PageIn wr b (fun k => W0.heap.size ≤ k) R m ∧ Fr W0 wr (fun _ => False) ∧ usedP R + rest.length = 256 ∧
    takeRecs count l = (match takeRecs (count - k) rest with | none => none | some (R2, r2) => some (R ++ R2, r2))) (fun _ i _ => count - (intOf i).toNat)
  case atStart =>
    refine ⟨0, [], l, a, c, by omega, rfl, rfl, hlc, HB.out, HP.out, HF.out, by simp [usedP, recsB]; omega, ?_⟩
    rw [Nat.sub_zero]
    cases takeRecs count l with
    | none => rfl
    | some x => rfl
  case round =>
    rename World => W
    obtain ⟨k, R, rest, a', c', hk, rfl, rfl, hrc, hbr, hpr, hfw, hus, heq⟩ := hrel
    have HBR := hide hbr
    have HPR := hide hpr
    have HFW := hide hfw
    have HEQ := hide heq
    clear hbr hpr hfw heq
    by_cases hlt : k < count
    · cases rest with
      | nil =>
        have hst : takeRecs (count - k) [] = none := by
          rw [show count - k = (count - k - 1) + 1 by omega]; rfl
        have HST := hide hst
        clear hst
        simp only [List.length_nil] at *
        go_wp2
        go_ret2
        refine ⟨?_, HFW.out⟩
        rw [HEQ.out, HST.out]
        rfl
      | cons u tl =>
        have hst : takeRecs (count - k) (u :: tl) = (if u.toNat > 200 ∨ tl.length < u.toNat then none else
            match takeRecs (count - k - 1) (tl.drop u.toNat) with
            | none => none
            | some (R, rest) => some (tl.take u.toNat :: R, rest)) := by
          conv => lhs; rw [show count - k = (count - k - 1) + 1 by omega]
          rfl
        have HST := hide hst
        obtain ⟨g, off, u2, rfl, hu2, hcell⟩ := HBR.out.get (w' := W) (HFW.out.mono (fun _ _ h => h.elim)) 0 (by simp)
        obtain rfl : u = u2 := by simpa using hu2
        rw [Nat.add_zero] at hcell
        have hul : u.toNat < 256 := u.toNat_lt
        obtain ⟨tn, htn⟩ : ∃ tn, tn = tl.length := ⟨_, rfl⟩
        have hrl : (u :: tl).length = tn + 1 := by rw [List.length_cons, htn]
        have HRL := hide hrl
        have hbr2 := HBR.out
        rw [hrl] at hrc hus hbr2 ⊢
        have HBR2 := hide hbr2
        have HTN := hide htn
        clear hst hu2 hrl hbr2
        by_cases h1 : tn < u.toNat
        · have hle : (tn : Int) + 1 ≤ (u.toNat : Int) := by omega
          have hs0 : ((tn : Int) + 1 == 0) = false := by simp; omega
          clear htn
          go_wp2
          go_ret2
          refine ⟨?_, HFW.out⟩
          rw [HEQ.out, HST.out, if_pos (by rw [← HTN.out]; exact .inr h1)]
          rfl
        · have hle : ¬ ((tn : Int) + 1 ≤ (u.toNat : Int)) := by omega
          have hs0 : ((tn : Int) + 1 == 0) = false := by simp; omega
          obtain ⟨am, hsm, hbm⟩ := run_mid (some ⟨g, off, none⟩) (tn + 1) c' 1 u.toNat (by omega) hrc 1 (1 + (u.toNat : Int)) rfl (by omega)
          obtain ⟨at', ct, hst2, hbt, hct⟩ := run_tailZ (some ⟨g, off, none⟩) (tn + 1) c' (1 + u.toNat) (1 + (u.toNat : Int)) (by omega) (by omega) hrc
          have HBM := hide (hbm W0 _ HBR2.out)
          have HBT := hide (hbt W0 _ HBR2.out)
          clear hbm hbt htn
          by_cases h2 : 200 < u.toNat
          · go_wp2_with (go_at_call 23; refine (add_long _ b am u.toNat _ (by omega) h2).mono ?_; rintro e w' ⟨rfl, hw⟩; obtain rfl := hw.symm; clear hw)
            go_ret2
            refine ⟨?_, HFW.out⟩
            rw [HEQ.out, HST.out, if_pos (.inl h2)]
            rfl
          · have HB2 := hide (HBM.out.fr HFW.out (fun _ _ _ _ h => h))
            go_wp2_with (go_at_call 23; refine (addIn HPR.out am u.toNat _ _ HB2.out (by omega) (by omega)).mono ?_; rintro e W2 ⟨rfl, hp2, hf2⟩; have HP2 := hide hp2; have HF2 := hide hf2; clear hp2 hf2)
            go_roundw
            case rel =>
              have s1 := HFW.out.size
              have hlr : ((u :: tl).drop (1 + u.toNat)).length = tn + 1 - (1 + u.toNat) := by rw [List.length_drop, HRL.out]
              refine ⟨k + 1, R ++ [((u :: tl).drop 1).take u.toNat], (u :: tl).drop (1 + u.toNat), at', ct, by omega, by go_num, by rw [hlr], by rw [hlr]; exact hct, by rw [hlr]; exact HBT.out, ?_, ?_, ?_, ?_⟩
              · exact HP2.out.mono (fun q _ h => h.elim id (fun h => by omega))
              · exact (HFW.out.trans HF2.out).mono (fun q hq h => h.elim id (fun h => by omega))
              · rw [hlr]
                unfold usedP at *
                rw [recsB_snoc, List.length_append, recB, List.length_cons, List.length_take, List.length_drop, HRL.out]
                omega
              · rw [HEQ.out, HST.out, if_neg (by rw [← HTN.out]; omega)]
                have e1 : (u :: tl).drop (1 + u.toNat) = tl.drop u.toNat := by rw [Nat.add_comm]; rfl
                have e2 : (u :: tl).drop 1 = tl := rfl
                rw [e1, e2, show count - (k + 1) = count - k - 1 by omega]
                cases takeRecs (count - k - 1) (tl.drop u.toNat) with
                | none => rfl
                | some x => obtain ⟨R2, r2⟩ := x; simp
            case measure => simp [intOf]; omega
    · obtain rfl : k = count := by omega
      go_wp2
      go_ret2
      refine ⟨?_, HFW.out⟩
      rw [HEQ.out, Nat.sub_self]
      show Taken W0 b m _ W (some (R ++ [], rest))
      rw [List.append_nil]
      exact ⟨a', c', rfl, HBR.out, HPR.out⟩
end Go.Proofs.Ytnkjknlacmeloaa
