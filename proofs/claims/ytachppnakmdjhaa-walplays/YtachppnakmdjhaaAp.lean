/- A record is added to a log. -/
import Derived.Test.YtachppnakmdjhaaCo
namespace Go.Proofs.Ytachppnakmdjhaa
open Go.RowKit
set_option linter.unusedVariables false

theorem Parts.fr {w V : World} {a : Option Addr} {L : List (List UInt8)} (h : Parts w a L) (hf : Fr w V (fun _ => False)) : Parts V a L := by
  rcases h with h | ⟨g, off, rfl, hc⟩
  · exact .inl h
  · refine .inr ⟨g, off, rfl, fun j l hl => ?_⟩
    obtain ⟨x, n, c, h1, h2, h3⟩ := hc j l hl
    exact ⟨x, n, c, by rw [World.cell?_of_block (w := w) (hf.block g (World.block_lt_of_cell? w _ h1) (fun h => h))]; exact h1, h2.fr hf (fun _ _ _ _ h => h), h3⟩

set_option maxRecDepth 100000 in
set_option maxHeartbeats 2000000 in
theorem append_log {w : World} {g b first count : Nat} {ta : Option Addr} {tn tc dur sum : Nat} (h : LogAt w g b first count ta tn tc dur sum) (hsum : sum < 4294967296) (hcnt : count ≤ 4096) (hdur : dur ≤ 1048576) (htn : tn ≤ 1048576) (T : List UInt8) (hot : OwnB w (.slice ta tn tc) T) (htg : (Value.slice ta tn tc).ownBlock ≠ some g)
    (a : Option Addr) (c : Nat) (L : List (List UInt8)) (hp : Parts w a L) (hL : L.length ≤ 140737488355328) (hT : L.flatten.length ≤ 4611686018427387904) (hcap : ∀ k l, L[k]? = some l → ∀ g off x n cc, a = some ⟨g, off, none⟩ → w.cell? ⟨g, off + k, none⟩ = some (.slice x n cc) → (x = none → cc = 0)) :
    Calls Try.prog 14 #[.pointer (some ⟨g, 0, none⟩), .slice a L.length c] w fun x w' =>
      (L.flatten.length = 0 ∧ x = .returned (.tuple #[.int .i64 0, .int .i64 5]) ∧ Fr w w' (fun _ => False)) ∨
      (1024 < L.flatten.length ∧ x = .returned (.tuple #[.int .i64 0, .int .i64 2]) ∧ Fr w w' (fun _ => False)) ∨
      (0 < L.flatten.length ∧ L.flatten.length ≤ 1024 ∧ count * 256 < dur / 256 * 256 + tn + 8 + L.flatten.length ∧ x = .returned (.tuple #[.int .i64 0, .int .i64 3]) ∧ Fr w w' (fun _ => False)) ∨
      (0 < L.flatten.length ∧ L.flatten.length ≤ 1024 ∧ dur / 256 * 256 + tn + 8 + L.flatten.length ≤ count * 256 ∧ x = .returned (.tuple #[.int .i64 ((dur / 256 * 256 + tn + 8 + L.flatten.length : Nat) : Int), .int .i64 0]) ∧
        ∃ ta' tc', LogAt w' g b first count ta' (tn + 8 + L.flatten.length) tc' dur (sealN sum (dur / 256 * 256 + tn) L.flatten) ∧ OwnB w' (.slice ta' (tn + 8 + L.flatten.length) tc') (T ++ numB L.flatten.length 4 ++ numB (sealN sum (dur / 256 * 256 + tn) L.flatten) 4 ++ L.flatten) ∧ Fr w w' (fun k => k = g ∨ (Value.slice ta tn tc).ownBlock = some k) ∧ ∀ q, (Value.slice ta' (tn + 8 + L.flatten.length) tc').ownBlock = some q → (Value.slice ta tn tc).ownBlock = some q ∨ w.heap.size ≤ q) := by
  have HP := hide hp
  have HL := hide h
  have HT := hide hot
  have HCAP := hide hcap
  have hgl : g < w.heap.size := World.block_lt_of_cell? w _ h.c0
  clear hp h hot hcap
  go_enter Try.func14, Try.ntmps14
  go_wp2_with fail
  go_loopw [6, 11] (fun v i wr => ∃ k : Nat, k ≤ L.length ∧ i = .int .i64 k ∧ v = .int .i64 ((L.take k).flatten.length : Int) ∧ wr = w) (fun _ i _ => L.length - (intOf i).toNat)
  case atStart => exact ⟨0, by omega, rfl, rfl, rfl⟩
  case round =>
    obtain ⟨k, hk, rfl, rfl, rfl⟩ := hrel
    rename World => W
    by_cases hlt : k < L.length
    · obtain ⟨l, hl⟩ : ∃ l, L[k]? = some l := ⟨_, List.getElem?_eq_getElem hlt⟩
      obtain ⟨gq, off, x, n, cc, rfl, _, hcell, hbi⟩ := HP.out.get (Fr.refl _ _) k l hl
      have hS := flat_snoc L k l hl
      have hle := flat_le L (k + 1)
      have hln := hbi.1
      have hsum2 : (L.take (k + 1)).flatten.length = (L.take k).flatten.length + n := by rw [hS, List.length_append, hln]
      have HSUM := hide hsum2
      obtain ⟨m, hm⟩ : ∃ m, m = (L.take k).flatten.length := ⟨_, rfl⟩
      rw [← hm] at hsum2 ⊢
      have hmn : m + n ≤ 4611686018427387904 := by omega
      have HM := hide hm
      have wk : IntKind.i64.wrap ((m : Int) + (n : Int)) = (m : Int) + (n : Int) := by rw [IntKind.wrap_i64]; omega
      clear hS hle hln hsum2 hm hl hbi
      go_wp2
      go_roundw
      case rel => exact ⟨k + 1, by omega, by go_num, by rw [HSUM.out, ← HM.out]; push_cast; rfl, trivial⟩
      case measure => simp [intOf]; omega
    · obtain rfl : k = L.length := by omega
      rw [List.take_length]
      obtain ⟨D, hD⟩ : ∃ D, D = L.flatten := ⟨_, rfl⟩
      rw [← hD] at hT ⊢
      obtain ⟨m, hm⟩ : ∃ m, m = D.length := ⟨_, rfl⟩
      have HM := hide hm
      have HD := hide hD
      rw [← hm] at hT ⊢
      clear hm hD
      by_cases h0 : m = 0
      · subst h0
        go_wp2
        go_ret2
        exact .inl ⟨by rw [← HD.out, ← HM.out], rfl, Fr.refl _ _⟩
      have h0' : ((m : Int) == 0) = false := by simp; omega
      by_cases h1 : 1024 < m
      · go_wp2
        go_ret2
        exact .inr (.inl ⟨by rw [← HD.out, ← HM.out]; omega, rfl, Fr.refl _ _⟩)
      go_wp2_with fail
      refine (left_any HL.out hcnt hdur htn).mono ?_
      rintro x W1 ⟨rfl, f1⟩
      have HF1 := hide f1
      have HL1 := hide (HL.out.fr f1 (fun h => h))
      have HT1 := hide (HT.out.fr f1 (fun _ _ h => h))
      have HP1 := hide (HP.out.fr f1)
      have HC1 : Hid (∀ k l, L[k]? = some l → ∀ g off x n cc, a = some ⟨g, off, none⟩ → W1.cell? ⟨g, off + k, none⟩ = some (.slice x n cc) → (x = none → cc = 0)) := by
        intro k l hl g off x n cc ha hc
        obtain ⟨g', off', x', n', c', ha', hb', hc', _⟩ := HP.out.get f1 k l hl
        rw [ha] at ha'
        simp only [Option.some.injEq, Addr.mk.injEq, and_true] at ha'
        obtain ⟨rfl, rfl⟩ := ha'
        rw [hc] at hc'
        simp only [Option.some.injEq, Value.slice.injEq] at hc'
        obtain ⟨rfl, rfl, rfl⟩ := hc'
        exact HCAP.out k l hl g off x n cc ha hb'
      have hs1 := f1.size
      obtain ⟨z, hz⟩ : ∃ z, z = (count : Int) * 256 - ((dur : Int) / 256 * 256 + (tn : Int)) := ⟨_, rfl⟩
      rw [← hz]
      have HZ := hide hz
      clear f1 hz HP
      by_cases h2 : z < 8 + (m : Int)
      · go_wp2
        go_ret2
        exact .inr (.inr (.inl ⟨by rw [← HD.out, ← HM.out]; omega, by rw [← HD.out, ← HM.out]; omega, by rw [← HD.out, ← HM.out]; have := HZ.out; omega, rfl, HF1.out⟩))
      have hzz : (dur : Int) / 256 * 256 + (tn : Int) + 8 + (m : Int) ≤ (count : Int) * 256 := by have := HZ.out; omega
      go_wp2_with fail
      refine (concat_any a c L W1 HP1.out hL (by rw [← HD.out, ← HM.out]; omega) HC1.out).mono ?_
      rintro x W2 ⟨v2, rfl, o2, f2, x2⟩
      rw [← HD.out] at o2
      obtain ⟨a2, c2, hv2⟩ := o2.shape
      rw [← HM.out] at hv2
      subst hv2
      have HL2 := hide (HL1.out.fr f2 (fun h => h))
      have HT2 := hide (HT1.out.fr f2 (fun _ _ h => h))
      have HTL := hide (fun q (hq : (Value.slice ta tn tc).ownBlock = some q) => (HT.out.lt q hq).2)
      have HF2 := hide ((HF1.out.trans f2).mono (Y := fun _ => False) (by simp))
      have hpush := push_log HL2.out hsum hdur htn T HT2.out htg a2 m c2 D o2.bi o2.cap.2 (by omega) (fun q off ha => by
        have hq := x2 q (by rw [ha]; rfl)
        exact ⟨by omega, fun h3 => by have := HTL.out q h3; omega⟩)
      clear o2 f2 x2
      go_wp2_with fail
      refine hpush.mono ?_
      rintro x W3 ⟨rfl, ta', tc', hl3, ho3, f3, n3⟩
      have HN3 := hide n3
      have hsz2 := HF2.out.size
      have HE3 := hide (wEnd_any hl3 hdur (by omega))
      have HL3 := hide hl3
      have HO3 := hide ho3
      have HF3 := hide ((HF2.out.trans f3).mono (Y := fun k => k = g ∨ (Value.slice ta tn tc).ownBlock = some k) (by intro k _ h3; rcases h3 with h3 | h3; exact h3.elim; exact h3))
      clear hl3 ho3 f3 n3 hpush
      go_wp2_with fail
      refine HE3.out.mono ?_
      rintro x W4 ⟨rfl, f4⟩
      have HL4 := hide (HL3.out.fr f4 (fun h => h))
      have HO4 := hide (HO3.out.fr f4 (fun _ _ h => h))
      have HF4 := hide ((HF3.out.trans f4).mono (Y := fun k => k = g ∨ (Value.slice ta tn tc).ownBlock = some k) (by intro k _ h3; rcases h3 with h3 | h3; exact h3; exact h3.elim))
      obtain ⟨y, hy⟩ : ∃ y, y = (dur : Int) / 256 * 256 + ((tn + 8 + m : Nat) : Int) := ⟨_, rfl⟩
      rw [← hy]
      have HY := hide hy
      clear f4 hy
      go_wp2
      go_ret2
      refine .inr (.inr (.inr ⟨?_, ?_, ?_, ?_, ?_⟩))
      · rw [← HD.out, ← HM.out]; omega
      · rw [← HD.out, ← HM.out]; omega
      · rw [← HD.out, ← HM.out]; omega
      · rw [← HD.out, ← HM.out, show ((dur / 256 * 256 + tn + 8 + m : Nat) : Int) = y by have := HY.out; omega]; rfl
      · refine ⟨ta', tc', ?_⟩
        rw [← HD.out, ← HM.out]
        exact ⟨HL4.out, HO4.out, HF4.out, fun q hq => (HN3.out q hq).imp id (fun h => Nat.le_trans hsz2 h)⟩
end Go.Proofs.Ytachppnakmdjhaa
