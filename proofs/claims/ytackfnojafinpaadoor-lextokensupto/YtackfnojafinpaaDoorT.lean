/- The document's quoted texts. -/
import Derived.Test.YtackfnojafinpaaDoorR
namespace Go.Proofs.YtackfnojafinpaaDoor
open Go.RowKit
set_option linter.unusedVariables false

/-- What One answers. -/
def OnePost (r : Option Bit) (m : Nat) (e : Ending) : Prop := match r with
  | some x => e = .returned (.tuple #[tokV (x.tok m), .int .i64 (m + x.len : Nat), .bool true])
  | none => ∃ (t : Tok) (en : Int), e = .returned (.tuple #[tokV t, .int .i64 en, .bool false])
theorem QInv.free {s : ByteArray} {m k : Nat} {txt : List UInt8} (h : QInv s m k txt) (hm : m + 1 ≤ k) (hk : k < s.size) (hb : s[k] ≠ 39) : QInv s m (k + 1) (txt ++ [s[k]]) := by
  unfold QInv at *
  rw [h, drop_byte s k hk, quoteT_free _ _ hb, Option.map_map]
  congr 1
  funext x
  simp only [Function.comp, List.append_assoc, List.cons_append, List.nil_append, Prod.mk.injEq, true_and]
  omega
theorem QInv.fin {s : ByteArray} {m k : Nat} {txt : List UInt8} (h : QInv s m k txt) (hm : m + 1 ≤ k) (hk : k < s.size) (hb : s[k] = 39) (hn : ∀ h : k + 1 < s.size, s[k + 1] ≠ 39) : quoteT (s.data.toList.drop (m + 1)) = some (txt, k - m) := by
  unfold QInv at h
  have hp : Lib.hasPrefix (s.data.toList.drop (k + 1)) [39] = false := by
    by_cases h2 : k + 1 < s.size
    · rw [drop_byte s _ h2]
      have := hn h2
      simp [Lib.hasPrefix, List.isPrefixOf]
      exact fun e => this e.symm
    · rw [drop_end s _ (by omega)]; rfl
  rw [h, drop_byte s k hk, hb, quoteT_end _ hp]
  simp only [Option.map_some, List.append_nil, Option.some.injEq, Prod.mk.injEq, true_and]
  omega
theorem QInv.two {s : ByteArray} {m k : Nat} {txt : List UInt8} (h : QInv s m k txt) (hm : m + 1 ≤ k) (hk : k + 1 < s.size) (hb : s[k] = 39) (hn : s[k + 1] = 39) : QInv s m (k + 2) (txt ++ [39]) := by
  unfold QInv at *
  rw [h, drop_byte s k (by omega), hb, drop_byte s (k + 1) hk, hn, quoteT_two, Option.map_map]
  congr 1
  funext x
  simp only [Function.comp, List.append_assoc, List.cons_append, List.nil_append, Prod.mk.injEq, true_and]
  omega
theorem QInv.over {s : ByteArray} {m k : Nat} {txt : List UInt8} (h : QInv s m k txt) (hk : ¬ k < s.size) : quoteT (s.data.toList.drop (m + 1)) = Option.none := by
  unfold QInv at h
  rw [h, drop_end s k (by omega)]; rfl
theorem extract_one (s : ByteArray) (k : Nat) (h : k < s.size) : s.extract k (k + 1) = strOf [s[k]] := by
  apply ByteArray.ext
  apply Array.toList_inj.1
  rw [extract_toList, drop_byte s k h]
  simp [strOf]
set_option maxRecDepth 100000 in
set_option maxHeartbeats 2000000 in
theorem one_quote (s : ByteArray) (m : Nat) (w : World) (hs : s.size ≤ 4096) (hm : m < s.size) (hb : s[m] = 39) :
    Calls Tryd.prog 20 #[.string s, .int .i64 m] w fun e w' => OnePost (quoteR (s.data.toList.drop m)) m e ∧ Fr w w' (fun _ => False) := by
  have HQR := hide (show quoteR (s.data.toList.drop m) = (quoteT (s.data.toList.drop (m + 1))).map (fun x => ⟨3, x.1, 0, x.2 + 1⟩) by rw [drop_byte s m hm, hb]; simp [quoteR])
  have hc := rlet_any s[m]
  have hc2 := rdig_any s[m]
  rw [show letB s[m] = false by rw [hb]; decide] at hc
  rw [show digB s[m] = false by rw [hb]; decide] at hc2
  have hb2 : (s[m].toNat : Int) = 39 := by rw [hb]; rfl
  rw [hb2] at hc hc2
  clear hb
  go_enter Tryd.func20, Tryd.ntmps20
  go_wp2_with (first | (go_at_call 32; refine (hc _).mono ?_; rintro e w' ⟨rfl, rfl⟩) | (go_at_call 33; refine (hc2 _).mono ?_; rintro e w' ⟨rfl, rfl⟩))
  go_loop [8, 11] (fun i x => ∃ (k : Nat) (txt : List UInt8), i = .int .i64 k ∧ x = .string (strOf txt) ∧ m + 1 ≤ k ∧ k ≤ s.size ∧ txt.length ≤ k ∧ QInv s m k txt) (fun i _ => s.size - (intOf i).toNat)
  case atStart => exact ⟨m + 1, [], by go_num, rfl, Nat.le_refl _, by omega, by simp, by unfold QInv; simp⟩
  case round =>
    obtain ⟨k, txt, rfl, rfl, hmk, hk, htl, hqi⟩ := hrel
    have HQ := hide hqi
    have hsz := strOf_size txt
    clear hqi
    by_cases hlt : k < s.size
    · by_cases hbk : s[k] = 39
      · have hbi : (s[k].toNat : Int) = 39 := by rw [hbk]; rfl
        by_cases h2 : k + 1 < s.size
        · by_cases hb3 : s[k + 1] = 39
          · have HN := hide (HQ.out.two hmk h2 hbk hb3)
            have HX := hide (show strOf txt ++ ⟨#[39]⟩ = strOf (txt ++ [39]) by rw [show (⟨#[39]⟩ : ByteArray) = strOf [39] from rfl, strOf_append])
            have hbj : (s[k + 1].toNat : Int) = 39 := by rw [hb3]; rfl
            have hq1 : ((k : Int) + 1 == (s.size : Int)) = false := by simp; omega
            clear hbk hb3
            go_wp2
            rw [HX.out]
            exact ⟨⟨k + 2, txt ++ [39], by go_num, rfl, by omega, by omega, by simp; omega, HN.out⟩, by simp [intOf]; omega⟩
          · have HF := hide (HQ.out.fin hmk hlt hbk (fun _ => hb3))
            have hbj : ¬ ((s[k + 1].toNat : Int) = 39) := fun h => hb3 (UInt8.toNat_inj.1 (by simp; omega))
            have hq1 : ((k : Int) + 1 == (s.size : Int)) = false := by simp; omega
            have hq2 : ((s[k + 1].toNat : Int) != 39) = true := by simpa using hbj
            clear hbk hb3
            go_wp2
            refine bodyPost_ret (v := .tuple #[.agg #[.int .i64 3, .string (strOf txt), .int .i64 0, .int .i64 m], .int .i64 (k + 1 : Nat), .bool true]) (by simp [results, Tryd.results20, go_sem]) rfl ⟨?_, Fr.alloc _ _ _⟩
            unfold OnePost
            rw [HQR.out, HF.out]
            simp only [Option.map_some]
            rw [show m + (k - m + 1) = k + 1 by omega]
            rfl
        · have HF := hide (HQ.out.fin hmk hlt hbk (fun h => absurd h h2))
          have hq1 : ((k : Int) + 1 == (s.size : Int)) = true := by simp; omega
          clear hbk
          go_wp2
          refine bodyPost_ret (v := .tuple #[.agg #[.int .i64 3, .string (strOf txt), .int .i64 0, .int .i64 m], .int .i64 (k + 1 : Nat), .bool true]) (by simp [results, Tryd.results20, go_sem]) rfl ⟨?_, Fr.alloc _ _ _⟩
          unfold OnePost
          rw [HQR.out, HF.out]
          simp only [Option.map_some]
          rw [show m + (k - m + 1) = k + 1 by omega]
          rfl
      · have HX := hide (extract_one s k hlt)
        have HN := hide (HQ.out.free hmk hlt hbk)
        have hbi : ¬ ((s[k].toNat : Int) = 39) := fun h => hbk (UInt8.toNat_inj.1 (by simp; omega))
        clear hbk
        go_wp2
        rw [HX.out, strOf_append]
        exact ⟨⟨k + 1, txt ++ [s[k]], by go_num, rfl, by omega, by omega, by simp; omega, HN.out⟩, by simp [intOf]; omega⟩
    · have HF := hide (HQ.out.over hlt)
      go_wp2
      refine bodyPost_ret (v := .tuple #[tokV ⟨0, [], 0, 0⟩, .int .i64 0, .bool false]) (by simp [results, Tryd.results20, go_sem, tokV, strOf]) rfl ⟨?_, Fr.alloc _ _ _⟩
      unfold OnePost
      rw [HQR.out, HF.out]
      exact ⟨_, _, rfl⟩
end Go.Proofs.YtackfnojafinpaaDoor
