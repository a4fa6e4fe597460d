/- Rl8 -/
import Derived.Test.YtnfkjmafhaecgaaUBs

namespace Go.Proofs.Ytnfkjmafhaecgaa
open Go.RowKit
attribute [local go_sem] run_store_complex
def flatTs : List (List St) → List St
  | [] => []
  | a :: l => St.flats a ++ flatTs l
end Go.Proofs.Ytnfkjmafhaecgaa
