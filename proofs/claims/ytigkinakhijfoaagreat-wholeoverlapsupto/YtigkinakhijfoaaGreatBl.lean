/- Texts as lists; a range is no longer than the whole. -/
import Derived.Test.YtigkinakhijfoaaGreatJy
namespace Go.Proofs.YtigkinakhijfoaaGreat
set_option linter.unusedVariables false
set_option linter.unusedSimpArgs false

end Go.Proofs.YtigkinakhijfoaaGreat
