/- Rl8 -/
import Derived.Test.YtbfikeegacapjaaKBs

namespace Go.Proofs.Ytbfikeegacapjaa
open Go.RowKit
attribute [local go_sem] run_store_complex
def flatTs : List (List St) → List St
  | [] => []
  | a :: l => St.flats a ++ flatTs l
end Go.Proofs.Ytbfikeegacapjaa
