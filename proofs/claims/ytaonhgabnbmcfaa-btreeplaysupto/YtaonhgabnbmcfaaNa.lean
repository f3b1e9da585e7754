/- The document's Wrong and Get. -/
import Derived.Test.YtaonhgabnbmcfaaZh
import Derived.Test.YtaonhgabnbmcfaaBl
import Derived.Deep.QuietTactic
import Derived.BigQuiet
namespace Go.Proofs.Ytaonhgabnbmcfaa
open Go.RowKit Go.Shelf
set_option maxRecDepth 100000
set_option linter.unusedVariables false
set_option linter.unusedSimpArgs false

def WrongQ (z : Int) (w : World) (e : Ending) (w' : World) : Prop := e = .returned (.int .i64 (if z < 2 ∨ 64 < z then 1 else 0)) ∧ Fr w w' (fun _ => False)
theorem wrong_any {w : World} (z : Int) : Calls Try.prog 9 #[.int .i64 z] w (WrongQ z w) := by
  by_cases h1 : z < 2
  · go_enter Try.func9, Try.ntmps9
    go_wp2
    go_ret
    exact ⟨by simp [h1], Fr.refl _ _⟩
  · by_cases h2 : 64 < z
    · go_enter Try.func9, Try.ntmps9
      go_wp2
      go_ret
      exact ⟨by simp [h1, h2], Fr.refl _ _⟩
    · go_enter Try.func9, Try.ntmps9
      go_wp2
      go_ret
      exact ⟨by simp [h1, h2], Fr.refl _ _⟩
def GetR (L : List It) (key : ByteArray) (w : World) (e : Ending) (w' : World) : Prop := ∃ (v : Int) (b : Bool), e = .returned (.tuple #[.int .i64 v, .bool b]) ∧ ((b = true ∧ (⟨key, v⟩ : It) ∈ L) ∨ (b = false ∧ v = 0 ∧ ∀ x ∈ L, x.key ≠ key)) ∧ Fr w w' (fun _ => False)
set_option maxHeartbeats 4000000 in
theorem refGet_any {w : World} {va : Value} {L : List It} (hA : PairsV w va L) (key : ByteArray) (hl : L.length ≤ 4398046511104) : Calls Try.prog 22 #[va, .string key] w (GetR L key w) := by
  obtain ⟨a, c, rfl, ia⟩ := hA
  obtain ⟨n, hn⟩ : ∃ n, L.length = n := ⟨_, rfl⟩
  have HN := hide hn
  rw [hn] at hl
  rw [hn]
  have HIA := hide ia
  clear ia hn
  go_enter Try.func22, Try.ntmps22
  go_wp2
  go_loopw [6] (fun vi wr => ∃ i : Nat, i ≤ n ∧ vi = .int .i64 (i : Int) ∧ (∀ x ∈ L.take i, x.key ≠ key) ∧ Fr w wr (fun _ => False)) (fun vi _ => n - (intOf vi).toNat)
  case atStart => exact ⟨0, Nat.zero_le _, rfl, fun x hx => by simp at hx, Fr.refl _ _⟩
  case round =>
    obtain ⟨i, hin, rfl, htk, hf⟩ := hrel
    rename World => V
    have HTK := hide htk
    have HF := hide hf
    clear htk hf
    by_cases hlt : i < n
    · obtain ⟨⟨xk, xv⟩, hx⟩ : ∃ x, L[i]? = some x := ⟨_, List.getElem?_eq_getElem (by rw [HN.out]; exact hlt)⟩
      obtain ⟨g, rfl, p1, p2⟩ := HIA.out.fr HF.out i _ hx
      have HX := hide hx
      clear hx
      dsimp only at p1 p2
      by_cases k1 : xk = key
      · subst k1
        go_wp2_with fail
        go_ret2
        exact ⟨xv, true, rfl, .inl ⟨rfl, List.mem_of_getElem? HX.out⟩, HF.out⟩
      · have k2 : ¬ xk.toList = key.toList := fun e => k1 (bl_inj e)
        have k3 : (xk.toList == key.toList) = false := by simpa using k2
        go_wp2_with fail
        go_roundw
        case rel => exact ⟨i + 1, by omega, by go_num, fun x hx => by
          rw [List.take_add_one, HX.out] at hx
          rcases List.mem_append.1 hx with h | h
          · exact HTK.out x h
          · simp at h; rw [h]; exact k1, HF.out⟩
        case measure => simp [intOf]; omega
    · have hge : ¬ ((i : Int) < (n : Int)) := by omega
      have hi : i = n := by omega
      have HALL : Hid (∀ x ∈ L, x.key ≠ key) := hide (fun x hx => HTK.out x (by rw [List.take_of_length_le (by rw [HN.out, hi]; exact Nat.le_refl _)]; exact hx))
      clear hi
      go_wp2_with fail
      go_ret2
      exact ⟨0, false, rfl, .inr ⟨rfl, rfl, HALL.out⟩, HF.out⟩
end Go.Proofs.Ytaonhgabnbmcfaa
