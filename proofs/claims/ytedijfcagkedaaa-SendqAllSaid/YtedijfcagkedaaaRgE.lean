/- The walks of layer 3's document functions: May. -/
import Derived.Test.YtedijfcagkedaaaRgD
namespace Go.Proofs.Ytedijfcagkedaaa.Rg
set_option maxRecDepth 20000
open Go.RowKit Go.Shelf
set_option linter.unusedVariables false

end Go.Proofs.Ytedijfcagkedaaa.Rg
