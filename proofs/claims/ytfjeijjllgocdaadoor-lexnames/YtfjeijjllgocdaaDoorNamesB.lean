/- LexNames answers true at whatever numbers and text, at whatever memory in which ErrRange holds an error. -/
import Derived.Test.YtfjeijjllgocdaaDoorNames
namespace Go.Proofs.YtfjeijjllgocdaaDoor
open Go.RowKit

theorem lexNames_row (v : Value) (raw : ByteArray) (l : List Int) (w : World) (hl : l.length ≤ 17592186044416) (hraw : raw.size ≤ 140737488355328) (h : IntsAt w v l) (hE : Er w) :
    Calls Tryd.prog 8 #[v, .string raw] w fun e w' => e = .returned (.bool true) ∧ Kept w w' := by
  have z1 := txt_size raw l
  have z3 := txt_size ⟨#[]⟩ (l.take 1)
  have hlt : (l.take 1).length ≤ 1 := List.length_take_le _ _
  cases h with
  | none => exact lexNames_nil raw w hraw (by show (0 : Nat) ≤ _; omega) (by show (0 : Nat) ≤ _; omega) hE
  | some hn hc hr h1 h2 => exact lexNames_some _ _ _ l raw w hl hraw (by omega) (by omega) hE (.some hn hc hr h1 h2) hn.symm h1 h2

end Go.Proofs.YtfjeijjllgocdaaDoor
