/- An append to a row that is known whole: the row stays where it was, or is a new one. -/
import Derived.Test.YtpjelmlbikmddaaF
import Derived.ArgAppend
import Derived.Laws.OwnMore
namespace Go.Proofs.Ytpjelmlbikmddaa
open Go

end Go.Proofs.Ytpjelmlbikmddaa
