/- From what a row lists of the library's variables to what the walks of layers 8 to 12 ask for. -/
import Derived.Test.YtjebdoecigmkhaaDoorRows
import Derived.Lib.LaidTab
import Derived.LaidMore
namespace Go.Proofs.YtjebdoecigmkhaaDoor.Zl
set_option linter.unusedSimpArgs false
set_option linter.unusedVariables false


theorem tru {p : Prop} (h : p) : True := trivial

end Go.Proofs.YtjebdoecigmkhaaDoor.Zl
