/- The document's Encode. -/
import Derived.Test.YtnbbgliegfmhpaaT
namespace Go.Proofs.Ytnbbgliegfmhpaa
open Go.RowKit

theorem lift_neg (n : Int) : IntKind.u64.wrap (IntKind.u64.wrap n - 9223372036854775808) = (lift n : Int) := by
  rw [IntKind.wrap_u64, IntKind.wrap_u64, lift]
  omega
theorem extract_one (t : List UInt8) (m : Nat) (u : UInt8) (hu : t[m]? = some u) : (strOf t).extract m (m + 1) = strOf [u] := by
  obtain ⟨h1, h2⟩ := List.getElem?_eq_some_iff.1 hu
  apply ByteArray.ext
  rw [ByteArray.data_extract]
  apply Array.ext'
  simp [strOf]
  rw [List.drop_eq_getElem_cons h1, h2]
  rfl
theorem checkL_pre (L : List Val) (k : Nat) (h : checkL L = 0) : checkL (L.take k) = 0 := by
  induction L generalizing k with
  | nil => simp [checkL]
  | cons v r ih =>
    cases k with
    | zero => rfl
    | succ k =>
      simp only [checkL] at h
      split at h
      · rename_i h1
        simp [checkL, h1, ih k h]
      · contradiction
theorem checkL_get (L : List Val) (k : Nat) (v : Val) (hv : L[k]? = some v) (h : checkL L = 0) : checkV v = 0 := by
  induction L generalizing k with
  | nil => simp at hv
  | cons x r ih =>
    simp only [checkL] at h
    split at h
    · rename_i h1
      cases k with
      | zero => simp at hv; subst hv; exact h1
      | succ k => exact ih k (by simpa using hv) h
    · contradiction
theorem strOf_one (b : UInt8) : (⟨#[b]⟩ : ByteArray) = strOf [b] := rfl
theorem strOf_two (b c : UInt8) : (⟨#[b, c]⟩ : ByteArray) = strOf [b, c] := rfl

set_option maxRecDepth 100000 in
set_option maxHeartbeats 4000000 in
theorem refEncode_any (a : Option Addr) (c : Nat) (L : List Val) (w : World) (hv : Vals w a L) (hL : L.length ≤ 1048576) :
    Calls Try.prog 17 #[.slice a L.length c] w fun e w' => e = .returned (.tuple #[.string (strOf (encR L)), .int .i64 (checkL L)]) ∧ Fr w w' (fun _ => False) := by
  have HV := hide hv
  have HC := hide (refCheck_any a c L w hv (by omega))
  clear hv
  by_cases hcl : checkL L = 0
  · have er : encR L = encL L := by rw [encR, if_pos hcl]
    rw [er]
    clear er
    go_enter Try.func17, Try.ntmps17
    go_wp2_with (go_at_call 29; refine HC.out.mono ?_; rintro e w1 ⟨rfl, F1⟩; have HF1 := hide F1; clear F1)
    go_loopw [5, 6] (fun s i wr => ∃ k : Nat, k ≤ L.length ∧ i = .int .i64 k ∧ Fr w wr (fun _ => False) ∧ s = .string (strOf (encL (L.take k)))) (fun _ i _ => L.length - (intOf i).toNat)
    case atStart => exact ⟨0, by omega, rfl, HF1.out, rfl⟩
    case round =>
      rename World => w7
      obtain ⟨k, hk, rfl, hf, rfl⟩ := hrel
      have HF := hide hf
      have hck := checkL_pre L k hcl
      have hle := length_encL _ hck
      rw [List.length_take] at hle
      clear hf hck
      by_cases hlt : k < L.length
      · obtain ⟨v, hv⟩ : ∃ v, L[k]? = some v := ⟨_, List.getElem?_eq_getElem hlt⟩
        have hcv := checkL_get L k v hv hcl
        have HTA := hide (by rw [List.take_add_one, hv, Option.toList_some, encL_append]; simp [encL] : encL (L.take (k + 1)) = encL (L.take k) ++ encV v)
        obtain ⟨g, off, rfl, c0, c1, c2⟩ := HV.out.get (HF.out.mono (by simp)) k v hv
        clear hv
        obtain ⟨acc, hacc⟩ : ∃ acc, acc = encL (L.take k) := ⟨_, rfl⟩
        rw [← hacc] at hle HTA
        rw [← hacc]
        have hsa := size_strOf acc
        clear hacc
        obtain ⟨kd, n, t⟩ := v
        simp only at c0 c1 c2
        by_cases hk1 : kd = 1
        · subst hk1
          have hsn := size_strOf (numB (lift n) 8)
          rw [length_numB] at hsn
          have HEV : Hid (encV ⟨1, n, t⟩ = 1 :: numB (lift n) 8) := by simp [Hid, encV]
          by_cases hn : n < 0
          · have e1 := lift_neg n
            go_wp2_with (go_at_call 13; refine (number_ref (lift n) (lift_lt n) 8 8 (by omega) _).mono ?_; rintro e w2 ⟨rfl, F2⟩; have HF2 := hide F2; clear F2)
            go_roundw
            case rel =>
              refine ⟨k + 1, by omega, by go_num, ((HF.out.trans1 _).trans HF2.out).mono (by simp), ?_⟩
              rw [HTA.out, HEV.out, strOf_one, strOf_append, strOf_append]
              rfl
            case measure => simp [intOf]; omega
          · have e1 := lift_wrap n
            go_wp2_with (go_at_call 13; refine (number_ref (lift n) (lift_lt n) 8 8 (by omega) _).mono ?_; rintro e w2 ⟨rfl, F2⟩; have HF2 := hide F2; clear F2)
            go_roundw
            case rel =>
              refine ⟨k + 1, by omega, by go_num, ((HF.out.trans1 _).trans HF2.out).mono (by simp), ?_⟩
              rw [HTA.out, HEV.out, strOf_one, strOf_append, strOf_append]
              rfl
            case measure => simp [intOf]; omega
        · have hk2 : kd = 2 ∧ n = 0 ∧ t.length ≤ 64 := by
            simp only [checkV] at hcv
            split at hcv
            · rename_i h; exact absurd h.1 hk1
            · split at hcv
              · rename_i h
                refine ⟨h.1, h.2, ?_⟩
                split at hcv
                · cases hcv
                · omega
              · cases hcv
          obtain ⟨rfl, rfl, ht⟩ := hk2
          have HEV : Hid (encV ⟨2, 0, t⟩ = 2 :: (esc t ++ [0, 0])) := by simp [Hid, encV]
          have hsz := size_strOf t
          clear hcv
          go_wp2_with fail
          have FT : Fr w7 (w7.alloc (.cells #[.int .i64 2, .int .i64 0, .string (strOf t)] 52)) (fun _ => False) := Fr.alloc _ _ _
          have T8 := three_of (heap_alloc_new w7 (.cells #[.int .i64 2, .int .i64 0, .string (strOf t)] 52))
          have HF8 := hide (HF.out.trans1 (.cells #[.int .i64 2, .int .i64 0, .string (strOf t)] 52))
          generalize hW : w7.alloc (.cells #[.int .i64 2, .int .i64 0, .string (strOf t)] 52) = W at *
          have t2 := T8.2.2.1
          clear hW FT T8 c0 c1 c2
          go_loopw [5, 9] (fun s i wr => ∃ m : Nat, m ≤ t.length ∧ i = .int .i64 m ∧ s = .string (strOf (acc ++ 2 :: esc (t.take m))) ∧ wr = W) (fun _ i _ => t.length - (intOf i).toNat)
          case atStart =>
            refine ⟨0, by omega, rfl, ?_, rfl⟩
            rw [strOf_one, strOf_append]
            rfl
          case round =>
            obtain ⟨m, hm, rfl, rfl, rfl⟩ := hrel
            have hesc := length_esc_le (t.take m)
            rw [List.length_take] at hesc
            obtain ⟨ac2, hac2⟩ : ∃ ac2, ac2 = acc ++ 2 :: esc (t.take m) := ⟨_, rfl⟩
            have hl2 : ac2.length ≤ 131 * L.length + 200 := by rw [hac2]; simp; omega
            have hsa2 := size_strOf ac2
            rw [← hac2]
            have HA2 := hide hac2
            clear hac2 hesc
            by_cases hltm : m < t.length
            · obtain ⟨u, hu⟩ : ∃ u, t[m]? = some u := ⟨_, List.getElem?_eq_getElem hltm⟩
              have hgm : (strOf t)[m]'(by rw [hsz]; exact hltm) = u := by
                rw [List.getElem?_eq_getElem hltm] at hu
                injection hu
              have HE := hide (take_esc t m u hu)
              have HX := hide (extract_one t m u hu)
              clear hu
              by_cases hu0 : u = 0
              · subst hu0
                go_wp2
                go_roundw
                case rel =>
                  refine ⟨m + 1, by omega, by go_num, ?_, trivial⟩
                  rw [HE.out, if_pos rfl, HX.out, HA2.out, strOf_one, strOf_append, strOf_append]
                  simp
                case measure => simp [intOf]; omega
              · have hu1 : ¬ (u.toNat : Int) = 0 := fun h => hu0 (UInt8.toNat_inj.1 (by simpa using h))
                go_wp2
                go_roundw
                case rel =>
                  refine ⟨m + 1, by omega, by go_num, ?_, trivial⟩
                  rw [HE.out, if_neg hu0, HX.out, HA2.out, strOf_append]
                  simp
                case measure => simp [intOf]; omega
            · obtain rfl : m = t.length := by omega
              go_wp2
              go_roundw
              case rel =>
                refine ⟨k + 1, by omega, by go_num, HF8.out, ?_⟩
                rw [HTA.out, HEV.out, HA2.out, strOf_two, strOf_append, List.take_length]
                simp
              case measure => simp [intOf]; omega
      · obtain rfl : k = L.length := by omega
        go_wp2
        go_ret2
        exact ⟨by rw [List.take_length, hcl]; rfl, HF.out⟩
  · have er : encR L = [] := by rw [encR, if_neg hcl]
    rw [er]
    have hne : ¬ ((checkL L : Nat) : Int) = 0 := by omega
    clear er
    go_enter Try.func17, Try.ntmps17
    go_wp2_with (go_at_call 29; refine HC.out.mono ?_; rintro e w1 ⟨rfl, F1⟩; have HF1 := hide F1; clear F1)
    go_ret2
    exact ⟨rfl, HF1.out⟩
end Go.Proofs.Ytnbbgliegfmhpaa
