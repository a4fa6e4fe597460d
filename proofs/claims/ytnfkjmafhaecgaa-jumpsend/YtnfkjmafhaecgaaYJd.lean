/- SwA Jd -/
import Derived.Test.YtnfkjmafhaecgaaYHdA
import Derived.Deep.RegionWith
import Derived.Test.YtnfkjmafhaecgaaYKpA
import Derived.Deep.RegionHeld3
import Derived.Test.YtnfkjmafhaecgaaYJk
import Derived.Test.YtnfkjmafhaecgaaYJs
import Derived.Test.YtnfkjmafhaecgaaYNp

namespace Go.Proofs.Ytnfkjmafhaecgaa
open Go.RowKit
end Go.Proofs.Ytnfkjmafhaecgaa
namespace Go.Proofs.Ytnfkjmafhaecgaa
open Go.RowKit
theorem Px.ba_size (a : List UInt8) : (Px.ba a).size = a.length := by unfold Px.ba; simp [ByteArray.size]
/-- Together they are no longer than a text may be. -/
def Fits (a b : ByteArray) : Prop := a.size + b.size ≤ 9223372036854775807
theorem add_fit (a b : ByteArray) (w : World) (h : Fits a b) : (Op.stringOp .add a b).run Try.prog w = .ok (.string (a ++ b)) w := run_string_add_sum w a b h
attribute [local go_sem ↓] add_fit
end Go.Proofs.Ytnfkjmafhaecgaa

namespace Go.Proofs.Ytnfkjmafhaecgaa
open Go.RowKit Jf
attribute [local go_sem] run_store_complex
attribute [local go_sem ↓] add_fit
theorem TsD.nil (w : World) (D : Nat → Prop) : TsD w D [] (.slice none 0 0) := ⟨none, 0, fun _ => undef, rfl, ⟨Nat.le_refl _, Nat.zero_le _, fun _ => rfl⟩, fun i hi => by simp at hi, fun i hi => by simp at hi⟩
theorem addg (S T : ByteArray) (h : S.size + T.size ≤ 1000000000000000) : Fits S T := by unfold Fits; omega
theorem index_three9 (A B C : ByteArray) (k : Nat) (hk : k < 3) : ∃ X, (X = A ∨ X = B ∨ X = C) ∧ ∀ w, (Instr.index 40 (.agg #[.string A, .string B, .string C]) (.int .i64 (k : Int))).run Try.prog w = .ok (.string X) w := by
  have h9 := Try.sizeOf9
  have ha := Try.isAgg9
  match k, hk with
  | 0, _ => exact ⟨A, by simp, fun w => by simp [Instr.index, go_sem, h9, ha]⟩
  | 1, _ => exact ⟨B, by simp, fun w => by simp [Instr.index, go_sem, h9, ha]⟩
  | 2, _ => exact ⟨C, by simp, fun w => by simp [Instr.index, go_sem, h9, ha]⟩
end Go.Proofs.Ytnfkjmafhaecgaa
