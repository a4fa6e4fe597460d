/- LexTells at every input, at whatever memory. -/
import Derived.Test.YtfjeijjllgocdaaDoorLt2
namespace Go.Proofs.YtfjeijjllgocdaaDoor
open Go.RowKit

theorem lexTells_row (v : Value) (raw : ByteArray) (b : Bool) (l : List Int) (w : World) (hl : l.length ≤ 17592186044416) (hraw : raw.size ≤ 140737488355328) (h : IntsAt w v l) (hE : Er w) :
    Calls Tryd.prog 4 #[v, .string raw, .bool b] w fun e w' => e = .returned (.bool true) ∧ Kept w w' := by
  have z1 := txt_size raw l
  have z2 := txt_size ⟨#[]⟩ l
  have z0 : (⟨#[]⟩ : ByteArray).size = 0 := rfl
  have hT : ∀ W, Kept w W → Calls Tryd.prog 13 #[v, .string raw] W fun e w' => e = .returned (.string (txt raw l)) ∧ Kept W w' := fun W hW => text_any raw v l hl (by omega) W (h.kept hW)
  have hT2 : ∀ W, Kept w W → Calls Tryd.prog 13 #[v, .string ⟨#[]⟩] W fun e w' => e = .returned (.string (txt ⟨#[]⟩ l)) ∧ Kept W w' := fun W hW => text_any ⟨#[]⟩ v l hl (by decide) W (h.kept hW)
  cases b with
  | false =>
    cases hR : Lx.toks (txt raw l).data.toList with
    | bad q => exact tells_bad_own v raw _ _ q w hT hT2 hE (by omega) (by omega) (by omega) hR
    | good ts => exact tells_good_own v raw _ _ ts w hT hT2 hE (by omega) (by omega) (by omega) hR
  | true =>
    cases hR : Lx.toks raw.data.toList with
    | bad q => exact tells_bad_any v raw _ _ q w hT hT2 hE (by omega) (by omega) (by omega) hR
    | good ts => exact tells_good_any v raw _ _ ts w hT hT2 hE (by omega) (by omega) (by omega) hR

end Go.Proofs.YtfjeijjllgocdaaDoor
