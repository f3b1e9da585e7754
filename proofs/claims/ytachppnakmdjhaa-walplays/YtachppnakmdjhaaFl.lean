/- Flush. -/
import Derived.Test.YtachppnakmdjhaaFo
namespace Go.Proofs.Ytachppnakmdjhaa
open Go.RowKit
set_option linter.unusedVariables false

set_option maxRecDepth 100000 in
set_option maxHeartbeats 1000000 in
theorem flush_log {w : World} {b gs cs : Nat} {Cs : Array Value} {pv : Value} {S : List (List UInt8)} {L : List (Nat × List UInt8)} (h : DiskIs w b gs cs Cs pv S L)
    {g first count : Nat} {ta : Option Addr} {tn tc dur sum : Nat} (hl : LogAt w g b first count ta tn tc dur sum) (T : List UInt8) (hot : OwnB w (.slice ta tn tc) T) (htg : (Value.slice ta tn tc).ownBlock ≠ some g)
    (htb : ∀ q, (Value.slice ta tn tc).ownBlock = some q → q ≠ b ∧ q ≠ gs ∧ pv.ownBlock ≠ some q) (hgb : g ≠ b) (hgg : g ≠ gs) (hpg : pv.ownBlock ≠ some g) (hfc : first + count ≤ S.length) (hS4 : S.length ≤ 4096) (hL : L.length ≤ 1048576)
    (hen : dur / 256 * 256 + tn ≤ count * 256) (hdt : dur % 256 ≤ tn) :
    Calls Try.prog 18 #[.pointer (some ⟨g, 0, none⟩)] w (ForcePost w b gs cs pv S L T g first count tn dur sum ((dur / 256 * 256 + tn : Nat) : Int) (dur / 256 * 256 + tn)) := by
  have hE := wEnd_any hl (by omega) (by omega)
  rw [show ((dur : Int) / 256 * 256 + (tn : Int)) = ((dur / 256 * 256 + tn : Nat) : Int) by omega] at hE
  have HE := hide hE
  have HF := hide (fun W (hf : Fr w W (fun _ => False)) => force_log (h.kept hf) (hl.fr hf (fun h => h)) T (hot.fr hf (fun _ _ h => h)) htg htb hgb hgg hpg hfc hS4 hL hen hdt ((dur / 256 * 256 + tn : Nat) : Int))
  clear h hl hot htb hE
  obtain ⟨en, hen2⟩ : ∃ en, en = dur / 256 * 256 + tn := ⟨_, rfl⟩
  rw [← hen2] at HE HF ⊢
  clear hen2 hen
  go_enter Try.func18, Try.ntmps18
  go_wp2_with fail
  refine HE.out.mono ?_
  rintro x W ⟨rfl, q⟩
  go_wp2_with fail
  refine (HF.out W q).mono ?_
  rintro x W2 ⟨rfl, p⟩
  have HP := hide p
  have HQ := hide q
  clear p q
  go_wp2
  go_end0
  refine ⟨rfl, ?_⟩
  rcases HP.out with ⟨h1, h2⟩ | ⟨h1, h2, Cs', ta', tc', h3, h4, h5, h6, h7⟩
  · exact .inl ⟨h1, (HQ.out.trans h2).mono (by simp)⟩
  · exact .inr ⟨h1, h2, Cs', ta', tc', h3, h4, h5, fun q hq => Nat.le_trans HQ.out.size (h6 q hq), (HQ.out.trans h7).mono (by intro k _ h; rcases h with h | h; exact h.elim; exact h)⟩
end Go.Proofs.Ytachppnakmdjhaa
