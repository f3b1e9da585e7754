/- Crash, whatever it is told. -/
import Derived.Test.YtpjelmlbikmddaaDo
import Derived.Test.YtpjelmlbikmddaaDp
namespace Go.Proofs.Ytpjelmlbikmddaa
open Go.RowKit
set_option maxRecDepth 100000

theorem crash_any {w : World} {b gs cs : Nat} {Cs : Array Value} {pv : Value} {S : List (List UInt8)} {L : List (Nat × List UInt8)} (h : DiskIs w b gs cs Cs pv S L)
    (ka : Option Addr) (kl kc : Nat) (kb : List Bool) (hk : KeepIs w gs ka kl kb) (tear at_ : Int) (hb : L.length ≤ 268435456) :
    Calls Try.prog 20 #[.pointer (some ⟨b, 0, none⟩), .slice ka kl kc, .int .i64 tear, .int .i64 at_] w fun e w' => e = .returned (.tuple #[]) ∧
      ∃ Cs', DiskIs w' b gs cs Cs' (.slice none 0 0) (laysTo S L (crashN kb tear (min (max at_ 0) 256).toNat) L.length) [] ∧ Fr w w' (fun k => k = gs ∨ k = b) := by
  by_cases h1 : at_ < 0
  · rw [show (min (max at_ 0) 256).toNat = 0 from by omega]
    exact crash_lo h ka kl kc kb hk tear at_ h1 hb
  · by_cases h2 : 256 < at_
    · rw [show (min (max at_ 0) 256).toNat = 256 from by omega]
      exact crash_hi h ka kl kc kb hk tear at_ h2 hb
    · obtain ⟨c, rfl⟩ := Int.eq_ofNat_of_zero_le (show 0 ≤ at_ by omega)
      rw [show (min (max (c : Int) 0) 256).toNat = c from by omega]
      exact crash_mid h ka kl kc kb hk tear c (by omega) hb

end Go.Proofs.Ytpjelmlbikmddaa
