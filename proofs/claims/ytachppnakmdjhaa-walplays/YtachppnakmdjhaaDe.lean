/- An append to a row that is known whole: the row stays where it was, or is a new one. -/
import Derived.Test.YtachppnakmdjhaaF
import Derived.ArgAppend
import Derived.Laws.OwnMore
namespace Go.Proofs.Ytachppnakmdjhaa
open Go

end Go.Proofs.Ytachppnakmdjhaa
