/- BufferNews, walked. -/
import Derived.Test.YtpjelmlbikmddaaJe
namespace Go.Proofs.Ytpjelmlbikmddaa
open Go.RowKit
set_option maxRecDepth 100000
set_option linter.unusedVariables false

set_option maxHeartbeats 4000000 in
theorem news_walk (f c n : Int) (w : World) (hf : -9223372036854775808 ≤ f ∧ f < 9223372036854775808) (hc : -9223372036854775808 ≤ c ∧ c < 9223372036854775808) :
    Calls Try.prog 3 #[.int .i64 f, .int .i64 c, .int .i64 n] w fun e w' => e = .returned (.bool true) ∧ Fr w w' (fun _ => False) := by
  have HA := hide (awake_any w)
  by_cases hg : 0 ≤ f ∧ 1 ≤ c ∧ f + c ≤ 12 ∧ 1 ≤ n ∧ n ≤ 4096
  · have HW := hide (fun W => wrong_any f c n hf hc W)
    rw [if_pos hg] at HW
    obtain ⟨f', rfl⟩ : ∃ f' : Nat, f = (f' : Int) := ⟨f.toNat, by omega⟩
    obtain ⟨c', rfl⟩ : ∃ c' : Nat, c = (c' : Int) := ⟨c.toNat, by omega⟩
    obtain ⟨n', rfl⟩ : ∃ n' : Nat, n = (n' : Int) := ⟨n.toNat, by omega⟩
    have hg' : 1 ≤ c' ∧ f' + c' ≤ 12 ∧ 1 ≤ n' ∧ n' ≤ 4096 := by omega
    clear hg hf hc
    go_enter Try.func3, Try.ntmps3
    go_wp2_with (first
      | (go_at_call 7; refine HA.out.mono ?_; rintro e W1 ⟨rfl, f1⟩; have HF1 := hide f1; clear f1)
      | (go_at_call 8; refine (new_any 12 12 rfl (by omega) (by omega) W1).mono ?_; rintro x W2 ⟨rfl, d1, s1, f2⟩; have y0 := d1.cell0; have HF2 := hide ((HF1.out.trans f2).mono (Y := fun _ => False) (by simp)); clear d1 f2 s1)
      | (go_at_call 9; refine (newP_yes (W1.heap.size + 1) (some ⟨W1.heap.size, 0, none⟩) 12 12 f' c' n' (.slice none 0 0) W2 (by simpa using y0) (by omega) hg'.1 hg'.2.1 hg'.2.2.1 hg'.2.2.2 (fun _ _ => True) (fun _ _ _ _ _ => trivial) (fun W hW => (clone25_nil W).mono (by rintro e w' ⟨rfl, rfl⟩; exact ⟨none, 0, 0, rfl, trivial, Fr.refl _ _⟩))).mono ?_; rintro e W3 ⟨p, gf, v, rfl, hP, hFr, _, _, _, hgf, _, f3⟩; have HP := hide hP; have HFr := hide hFr; have HGF := hide hgf; have HF3 := hide ((HF2.out.trans f3).mono (Y := fun _ => False) (by simp)); clear hP hFr f3 hgf y0)
      | (go_at_call 10; refine (HW.out _).mono ?_; rintro e w' ⟨rfl, hV⟩; obtain rfl := hV.symm; clear hV)
      | (go_at_call 11; refine (pages_any HP.out).mono ?_; rintro e w' ⟨rfl, hV⟩; obtain rfl := hV.symm; clear hV)
      | (go_at_call 12; refine (frames_any (L := List.replicate n' noneF) (by rw [List.length_replicate]; exact HP.out) HFr.out (by rw [List.length_replicate]; omega) HGF.out).mono ?_; rintro e W4 ⟨rfl, hI⟩; rw [List.length_replicate] at *; have HF4 := hide ((HF3.out.trans hI.fr).mono (Y := fun _ => False) (by simp)); clear hI))
    go_ret
    exact ⟨by simp, HF4.out⟩
  · have HW := hide (fun W => wrong_any f c n hf hc W)
    rw [if_neg hg] at HW
    have HN := hide (fun W a hd => newP_no (W.heap.size + 1) a 12 12 f c n hf hc (.slice none 0 0) W hd (by omega) hg)
    have HHg := hide hg
    have HHf := hide hf
    have HHc := hide hc
    clear hg hf hc
    go_enter Try.func3, Try.ntmps3
    go_wp2_with (first
      | (go_at_call 7; refine HA.out.mono ?_; rintro e W1 ⟨rfl, f1⟩; have HF1 := hide f1; clear f1)
      | (go_at_call 8; refine (new_any 12 12 rfl (by omega) (by omega) W1).mono ?_; rintro x W2 ⟨rfl, d1, s1, f2⟩; have y0 := d1.cell0; have HF2 := hide ((HF1.out.trans f2).mono (Y := fun _ => False) (by simp)); clear d1 f2 s1)
      | (go_at_call 9; refine (newP_no (W1.heap.size + 1) (some ⟨W1.heap.size, 0, none⟩) 12 12 f c n HHf.out HHc.out (.slice none 0 0) W2 (by simpa using y0) (by omega) HHg.out).mono ?_; rintro e w' ⟨rfl, hV⟩; obtain rfl := hV.symm; clear hV)
      | (go_at_call 10; refine (HW.out _).mono ?_; rintro e w' ⟨rfl, hV⟩; obtain rfl := hV.symm; clear hV))
    go_ret
    exact ⟨rfl, HF2.out⟩
end Go.Proofs.Ytpjelmlbikmddaa
