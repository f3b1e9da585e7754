/- slices.Concat of bytes. -/
import Derived.Test.YtachppnakmdjhaaGr
namespace Go.Proofs.Ytachppnakmdjhaa
open Go.RowKit
set_option linter.unusedVariables false

theorem flat_snoc (L : List (List UInt8)) (k : Nat) (l : List UInt8) (h : L[k]? = some l) : (L.take (k + 1)).flatten = (L.take k).flatten ++ l := by
  rw [List.take_add_one, h, List.flatten_append]; simp
theorem flat_le (L : List (List UInt8)) (k : Nat) : (L.take k).flatten.length ≤ L.flatten.length := by
  have h : L.flatten = (L.take k).flatten ++ (L.drop k).flatten := by rw [← List.flatten_append, List.take_append_drop]
  rw [h, List.length_append]; omega
theorem Parts.get {w V : World} {a : Option Addr} {L : List (List UInt8)} (h : Parts w a L) (hf : Fr w V (fun _ => False)) (k : Nat) (l : List UInt8) (hl : L[k]? = some l) : ∃ g off x n c, a = some ⟨g, off, none⟩ ∧ w.cell? ⟨g, off + k, none⟩ = some (.slice x n c) ∧ V.cell? ⟨g, off + k, none⟩ = some (.slice x n c) ∧ BI V x n l := by
  rcases h with h | ⟨g, off, rfl, hc⟩
  · subst h; simp at hl
  · obtain ⟨x, n, c, h1, h2, _⟩ := hc k l hl
    exact ⟨g, off, x, n, c, rfl, h1, by rw [World.cell?_of_block (w := w) (hf.block g (World.block_lt_of_cell? w _ h1) (fun h => h))]; exact h1, h2.fr hf (fun _ _ _ _ h => h)⟩

set_option maxRecDepth 100000 in
set_option maxHeartbeats 1600000 in
theorem concat_any (a : Option Addr) (c : Nat) (L : List (List UInt8)) (w : World) (hp : Parts w a L) (hL : L.length ≤ 140737488355328) (hT : L.flatten.length ≤ 1048576) (hcap : ∀ k l, L[k]? = some l → ∀ g off x n cc, a = some ⟨g, off, none⟩ → w.cell? ⟨g, off + k, none⟩ = some (.slice x n cc) → (x = none → cc = 0)) :
    Calls Try.prog 42 #[.slice a L.length c] w fun x w' => ∃ v, x = .returned v ∧ OwnB w' v L.flatten ∧ Fr w w' (fun _ => False) ∧ ∀ q, v.ownBlock = some q → w.heap.size ≤ q := by
  have HP := hide hp
  have HCAP := hide hcap
  clear hp hcap
  go_enter Try.func42, Try.ntmps42
  go_wp2_with fail
  go_loopw [3, 11] (fun v i wr => ∃ k : Nat, k ≤ L.length ∧ i = .int .i64 k ∧ v = .int .i64 ((L.take k).flatten.length : Int) ∧ wr = w) (fun _ i _ => L.length - (intOf i).toNat)
  case atStart => exact ⟨0, by omega, rfl, rfl, rfl⟩
  case round =>
    obtain ⟨k, hk, rfl, rfl, rfl⟩ := hrel
    rename World => W
    by_cases hlt : k < L.length
    · obtain ⟨l, hl⟩ : ∃ l, L[k]? = some l := ⟨_, List.getElem?_eq_getElem hlt⟩
      obtain ⟨g, off, x, n, cc, rfl, _, hcell, hbi⟩ := HP.out.get (Fr.refl _ _) k l hl
      have hS := flat_snoc L k l hl
      have hle := flat_le L (k + 1)
      have hln := hbi.1
      have hsum : (L.take (k + 1)).flatten.length = (L.take k).flatten.length + n := by rw [hS, List.length_append, hln]
      have HSUM := hide hsum
      obtain ⟨m, hm⟩ : ∃ m, m = (L.take k).flatten.length := ⟨_, rfl⟩
      rw [← hm] at hsum ⊢
      have hmn : m + n ≤ 1048576 := by omega
      have HM := hide hm
      have wk : IntKind.i64.wrap ((m : Int) + (n : Int)) = (m : Int) + (n : Int) := by rw [IntKind.wrap_i64]; omega
      clear hS hle hln hsum hm hl hbi
      go_wp2
      go_roundw
      case rel => exact ⟨k + 1, by omega, by go_num, by rw [HSUM.out, ← HM.out]; push_cast; rfl, trivial⟩
      case measure => simp [intOf]; omega
    · obtain rfl : k = L.length := by omega
      rw [List.take_length]
      obtain ⟨m, hm⟩ : ∃ m, m = L.flatten.length := ⟨_, rfl⟩
      rw [← hm] at hT ⊢
      have HM := hide hm
      clear hm
      go_wp2_with fail
      refine (grow_nil m hT W).mono ?_
      rintro x W1 ⟨v1, rfl, o1, f1, x1⟩
      have HO1 := hide o1
      have HF1 := hide f1
      have HX1 := hide x1
      clear o1 f1 x1
      go_wp2_with fail
      go_loopw [6, 27] (fun v i wr => ∃ k : Nat, k ≤ L.length ∧ i = .int .i64 k ∧ OwnB wr v (L.take k).flatten ∧ Fr W wr (fun _ => False) ∧ ∀ q, v.ownBlock = some q → W.heap.size ≤ q) (fun _ i _ => L.length - (intOf i).toNat)
      case atStart => exact ⟨0, by omega, rfl, HO1.out, HF1.out, HX1.out⟩
      case round =>
        rename World => V
        obtain ⟨k, hk2, rfl, ho, hf, hx⟩ := hrel
        have HO := hide ho
        have HF := hide hf
        have HX := hide hx
        clear ho hf hx
        by_cases hlt2 : k < L.length
        · obtain ⟨l, hl⟩ : ∃ l, L[k]? = some l := ⟨_, List.getElem?_eq_getElem hlt2⟩
          obtain ⟨g, off, x, n, cc, rfl, hc0, hcell, hbi⟩ := HP.out.get HF.out k l hl
          have hac := HCAP.out k l hl g off x n cc rfl hc0
          have HS := hide (flat_snoc L k l hl)
          have hle := flat_le L (k + 1)
          have HLE : Hid ((L.take k).flatten.length + n ≤ 140737488355328) := by
            show _ ≤ _
            have h1 := HS.out
            have h2 := hbi.1
            have h3 := HM.out
            rw [h1, List.length_append, h2] at hle
            omega
          have HBI := hide hbi
          obtain ⟨B0, hB0⟩ : ∃ B0, B0 = (L.take k).flatten := ⟨_, rfl⟩
          rw [← hB0] at HO HLE HS
          clear hl hc0 hle hbi hB0
          go_wp2_with (refine wpList_pushAll rfl (.tmp 31) (.tmp 32) rfl u6 B0 rfl HO.out x n cc l rfl HBI.out hac HLE.out ?_; intro v3 W3 o3 f3 r3; have HO3 := hide o3; have HF3 := hide f3; have HR3 := hide r3; clear o3 f3 r3)
          go_roundw
          case rel =>
            refine ⟨k + 1, by omega, by go_num, by rw [HS.out]; exact HO3.out, (HF.out.trans HF3.out).mono (fun q hq h => ?_), HR3.out.le HF.out.size HX.out⟩
            rcases h with h | h
            · exact h
            · have := HX.out q h; omega
          case measure => simp [intOf]; omega
        · obtain rfl : k = L.length := by omega
          go_wp2
          go_ret
          refine ⟨_, rfl, ?_, HF.out, HX.out⟩
          have h9 := HO.out
          rwa [List.take_length] at h9
end Go.Proofs.Ytachppnakmdjhaa
