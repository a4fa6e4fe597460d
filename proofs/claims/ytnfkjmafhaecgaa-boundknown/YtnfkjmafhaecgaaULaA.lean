/- LaA -/
import Derived.Test.YtnfkjmafhaecgaaUWkB
import Derived.ProofKit
import Derived.LaidMore
import Derived.OpenShut
import Derived.Stop.Joined
import Derived.Stop.LaidErr
import Derived.SevenTiedAt
import Derived.Test.YtnfkjmafhaecgaaUHdA
import Derived.Carry
import Derived.ChangeOld
import Derived.Deep.Slices

namespace Go.Proofs.Ytnfkjmafhaecgaa
open Go.ChangeShapes Go.WideShapes Go.ChangeAt Go.WideMaps Go.WideElems Go.RowKit
theorem own : ownKnob Try.prog.godebug = none := by kernel_rfl
end Go.Proofs.Ytnfkjmafhaecgaa
namespace Go.Proofs.Ytnfkjmafhaecgaa
open Go.ChangeShapes Go.WideShapes Go.ChangeAt Go.WideMaps Go.WideElems Go.RowKit
end Go.Proofs.Ytnfkjmafhaecgaa
namespace Go.Proofs.Ytnfkjmafhaecgaa
open Go.ChangeShapes Go.WideShapes Go.ChangeAt Go.WideMaps Go.WideElems Go.RowKit
end Go.Proofs.Ytnfkjmafhaecgaa
