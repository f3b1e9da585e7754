/- A law of our own on regions that draw their order: an operation that only reads may be taken first where what it reads is kept by all those that don't wait for it. -/
import Derived.Test.YtpjelmlbikmddaaF
import Derived.OrdersHeld
import Derived.RegionTactic
namespace Go.Proofs.Ytpjelmlbikmddaa
open Go

section
variable {P : Program} {ops : Array Oper} {Q : Exit → Act → World → Prop} {md : Region.Mode} {S : World → Prop} {hold : Nat → Bool}

end
end Go.Proofs.Ytpjelmlbikmddaa
