/- Nm5 -/
import Derived.Test.YtnfkjmafhaecgaaUWkB
import Derived.Test.YtnfkjmafhaecgaaULxA

namespace Go.Proofs.Ytnfkjmafhaecgaa
open Go.RowKit
def kws : List (List UInt8) := [[118, 97, 114], [119, 105, 100, 101], [97, 116, 111, 109, 105, 99], [108, 111, 99, 97, 108], [109, 117, 116, 101, 120], [99, 104, 97, 110],
  [103, 111], [108, 111, 99, 107], [117, 110, 108, 111, 99, 107], [115, 101, 110, 100], [114, 101, 99, 118], [112, 114, 105, 110, 116],
  [105, 102], [101, 108, 115, 101], [114, 101, 112, 101, 97, 116], [103, 111, 116, 111], [108, 97, 98, 101, 108]]
/-- Is it a keyword? -/
def kw (s : ByteArray) : Bool := kws.any (s.toList == ·)
end Go.Proofs.Ytnfkjmafhaecgaa
namespace Go.Proofs.Ytnfkjmafhaecgaa
open Go.RowKit
/-- Is it a name? -/
def nm (s : ByteArray) : Bool := Lx.isWord s.data.toList && !kw s
theorem toList_data (s : ByteArray) : s.toList = s.data.toList := by rw [ByteArray.toList_eq]
theorem least (P : Nat → Prop) [DecidablePred P] (N : Nat) (h : ∃ j, j < N ∧ ¬ P j) : ∃ n, n < N ∧ ¬ P n ∧ ∀ j, j < n → P j := by
  induction N with
  | zero => obtain ⟨j, hj, _⟩ := h; omega
  | succ N ih =>
    by_cases h2 : ∃ j, j < N ∧ ¬ P j
    · obtain ⟨n, h3, h4, h5⟩ := ih h2
      exact ⟨n, by omega, h4, h5⟩
    · obtain ⟨j, hj, hp⟩ := h
      have hjN : j = N := by
        apply Classical.byContradiction
        intro hne
        exact h2 ⟨j, by omega, hp⟩
      subst hjN
      refine ⟨j, by omega, hp, fun i hi => ?_⟩
      apply Classical.byContradiction
      intro hni
      exact h2 ⟨i, hi, hni⟩
end Go.Proofs.Ytnfkjmafhaecgaa
