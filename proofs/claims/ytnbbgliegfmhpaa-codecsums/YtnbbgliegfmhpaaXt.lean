/- The document's text. -/
import Derived.Test.YtnbbgliegfmhpaaTe
import Derived.Test.YtnbbgliegfmhpaaV
namespace Go.Proofs.Ytnbbgliegfmhpaa
open Go.RowKit

/-- What the document's text answers. -/
def textAns (l : List UInt8) (at_ : Nat) : Value :=
  match readT (l.drop (at_ + 1)) [] with
  | .ok (t, r) => if t.length > 64 then .tuple #[.string (strOf []), .int .i64 0, .int .i64 2, .int .i64 at_] else .tuple #[.string (strOf t), .int .i64 ((l.length - r.length : Nat) : Int), .int .i64 0, .int .i64 0]
  | .error e => .tuple #[.string (strOf []), .int .i64 0, .int .i64 e.1, .int .i64 ((l.length - e.2 : Nat) : Int)]

theorem results_four {fn : Func} {a b c d : Tmp} (h : fn.results = #[.tmp a, .tmp b, .tmp c, .tmp d]) (tmps : Array Value) (w : World) : (results fn tmps).run Try.prog w = .ok (.tuple #[tmps.getD a undef, tmps.getD b undef, tmps.getD c undef, tmps.getD d undef]) w := by
  simp [results, h]

theorem char_at (l : List UInt8) (k : Nat) (u : UInt8) (hu : l[k]? = some u) (h : k < (strOf l).size) : (strOf l)[k] = u := by
  obtain ⟨h1, h2⟩ := List.getElem?_eq_some_iff.1 hu
  exact h2

set_option maxRecDepth 100000 in
set_option maxHeartbeats 4000000 in
theorem refText_any (l : List UInt8) (at_ : Nat) (hat : at_ < l.length) (hl : l.length ≤ 1048576) (w : World) :
    Calls Try.prog 33 #[.string (strOf l), .int .i64 at_] w fun e w' => e = .returned (textAns l at_) ∧ w' = w := by
  have hsz := size_strOf l
  go_enter Try.func33, Try.ntmps33
  go_wp2
  go_loopw [8, 9] (fun s i wr => ∃ (m : Nat) (out : List UInt8), m ≤ l.length ∧ i = .int .i64 m ∧ s = .string (strOf out) ∧ out.length ≤ m ∧ wr = w ∧ readT (l.drop m) out = readT (l.drop (at_ + 1)) []) (fun _ i _ => l.length - (intOf i).toNat)
  case atStart => exact ⟨at_ + 1, [], by omega, rfl, rfl, by simp, rfl, rfl⟩
  case round =>
    obtain ⟨m, out, hm, rfl, rfl, hol, rfl, he⟩ := hrel
    have HE := hide he
    have hso := size_strOf out
    clear he
    by_cases hlt : m < l.length
    · obtain ⟨u, hu⟩ : ∃ u, l[m]? = some u := ⟨_, List.getElem?_eq_getElem hlt⟩
      have hgm := char_at l m u hu (by rw [hsz]; exact hlt)
      have HX := hide (extract_one l m u hu)
      have HE1 := hide (by have := HE.out; rw [drop_cons hu] at this; exact this : readT (u :: l.drop (m + 1)) out = readT (l.drop (at_ + 1)) [])
      clear hu
      by_cases hu0 : u = 0
      · subst hu0
        by_cases hm1 : m + 1 = l.length
        · have hm2 : (m : Int) + 1 = (l.length : Int) := by omega
          have hta : textAns l at_ = .tuple #[.string (strOf []), .int .i64 0, .int .i64 20, .int .i64 (l.length : Int)] := by
            have h1 := HE1.out
            rw [hm1, List.drop_length, readT_z] at h1
            rw [textAns, ← h1]
            rfl
          go_wp2
          refine bodyPost_ret (results_four Try.results33 _ _) rfl ⟨?_, rfl⟩
          rw [hta]
          rfl
        · obtain ⟨x, hx⟩ : ∃ x, l[m + 1]? = some x := ⟨_, List.getElem?_eq_getElem (by omega)⟩
          have hlt2 : m + 1 < l.length := by omega
          have hgx := char_at l (m + 1) x hx (by rw [hsz]; omega)
          have hm2 : ¬ (m : Int) + 1 = (l.length : Int) := by omega
          have HE2 := hide (by have := HE1.out; rw [drop_cons hx] at this; exact this : readT (0 :: x :: l.drop (m + 1 + 1)) out = readT (l.drop (at_ + 1)) [])
          clear hx
          by_cases hx0 : x = 0
          · subst hx0
            have h1 := HE2.out
            rw [readT_zz] at h1
            by_cases h64 : out.length > 64
            · have hta : textAns l at_ = .tuple #[.string (strOf []), .int .i64 0, .int .i64 2, .int .i64 at_] := by
                rw [textAns, ← h1]
                simp only [if_pos h64]
              clear h1
              go_wp2
              refine bodyPost_ret (results_four Try.results33 _ _) rfl ⟨?_, rfl⟩
              rw [hta]
              rfl
            · have hta : textAns l at_ = .tuple #[.string (strOf out), .int .i64 ((m : Int) + 2), .int .i64 0, .int .i64 0] := by
                rw [textAns, ← h1]
                simp only [if_neg h64]
                rw [List.length_drop, show l.length - (l.length - (m + 1 + 1)) = m + 2 by omega]
                rfl
              clear h1
              go_wp2
              refine bodyPost_ret (results_four Try.results33 _ _) rfl ⟨?_, rfl⟩
              rw [hta]
              rfl
          · have hx1 : ¬ (x.toNat : Int) = 0 := fun h => hx0 (UInt8.toNat_inj.1 (by simpa using h))
            by_cases hxf : x = 255
            · subst hxf
              go_wp2
              go_roundw
              case rel =>
                refine ⟨m + 1 + 1, out ++ [0], by omega, by go_num, by rw [strOf_one, strOf_append], by simp; omega, trivial, ?_⟩
                rw [← HE2.out, readT_zf]
              case measure => simp [intOf]; omega
            · have hx2 : ((x.toNat : Int) != 255) = true := by rw [bne_iff_ne]; exact fun h => hxf (UInt8.toNat_inj.1 (by simp; omega))
              have hta : textAns l at_ = .tuple #[.string (strOf []), .int .i64 0, .int .i64 22, .int .i64 ((m : Int) + 1)] := by
                have h1 := HE2.out
                rw [readT_zx _ _ _ hx0 hxf] at h1
                rw [textAns, ← h1]
                simp only [List.length_drop]
                rw [show l.length - (l.length - (m + 1 + 1) + 1) = m + 1 by omega]
                rfl
              go_wp2
              refine bodyPost_ret (results_four Try.results33 _ _) rfl ⟨?_, rfl⟩
              rw [hta]
              rfl
      · have hu1 : ((u.toNat : Int) != 0) = true := by rw [bne_iff_ne]; exact fun h => hu0 (UInt8.toNat_inj.1 (by simpa using h))
        go_wp2
        go_roundw
        case rel =>
          refine ⟨m + 1, out ++ [u], by omega, by go_num, by rw [HX.out, strOf_append], by simp; omega, trivial, ?_⟩
          rw [← HE1.out, readT_nz _ _ _ hu0]
        case measure => simp [intOf]; omega
    · obtain rfl : m = l.length := by omega
      have hta : textAns l at_ = .tuple #[.string (strOf []), .int .i64 0, .int .i64 20, .int .i64 (l.length : Int)] := by
        have h1 := HE.out
        rw [List.drop_length] at h1
        rw [textAns, ← h1]
        rfl
      go_wp2
      refine bodyPost_ret (results_four Try.results33 _ _) rfl ⟨?_, rfl⟩
      rw [hta]
      rfl
end Go.Proofs.Ytnbbgliegfmhpaa
