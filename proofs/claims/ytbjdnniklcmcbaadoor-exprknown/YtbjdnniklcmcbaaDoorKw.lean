/- What lex.Keyword, lex.IsName answer, at whatever memory. -/
import Derived.Test.YtbjdnniklcmcbaaDoorWalksC
import Derived.Test.YtbjdnniklcmcbaaDoorLxLaws
namespace Go.Proofs.YtbjdnniklcmcbaaDoor
open Go.RowKit

def kws : List (List UInt8) := [[118, 97, 114], [119, 105, 100, 101], [97, 116, 111, 109, 105, 99], [108, 111, 99, 97, 108], [109, 117, 116, 101, 120], [99, 104, 97, 110],
  [103, 111], [108, 111, 99, 107], [117, 110, 108, 111, 99, 107], [115, 101, 110, 100], [114, 101, 99, 118], [112, 114, 105, 110, 116],
  [105, 102], [101, 108, 115, 101], [114, 101, 112, 101, 97, 116], [103, 111, 116, 111], [108, 97, 98, 101, 108]]
/-- Is it a keyword? -/
def kw (s : ByteArray) : Bool := kws.any (s.toList == ·)

set_option maxHeartbeats 2000000 in
theorem keyword_no (s : ByteArray) (w : World) (h : kw s = false) : Calls Tryd.prog 77 #[.string s] w fun e w' => e = .returned (.bool false) ∧ w' = w := by
  simp only [kw, kws, List.any_cons, List.any_nil, Bool.or_false, Bool.or_eq_false_iff] at h
  obtain ⟨h1, h2, h3, h4, h5, h6, h7, h8, h9, h10, h11, h12, h13, h14, h15, h16, h17⟩ := h
  go_enter Tryd.func77, Tryd.ntmps77
  go_wp2
  go_ret
  exact ⟨rfl, rfl⟩

set_option maxHeartbeats 2000000 in
theorem keyword_yes (s : ByteArray) (w : World) (h : kw s = true) : Calls Tryd.prog 77 #[.string s] w fun e w' => e = .returned (.bool true) ∧ w' = w := by
  simp only [kw, kws, List.any_cons, List.any_nil, Bool.or_false, Bool.or_eq_true, beq_iff_eq] at h
  rcases h with h | h | h | h | h | h | h | h | h | h | h | h | h | h | h | h | h
  all_goals
    go_enter Tryd.func77, Tryd.ntmps77
    go_wp2
    go_ret
    exact ⟨rfl, rfl⟩

theorem keyword_any (s : ByteArray) (b : Bool) (h : kw s = b) (w : World) : Calls Tryd.prog 77 #[.string s] w fun e w' => e = .returned (.bool b) ∧ w' = w := by
  cases b with
  | true => exact keyword_yes s w h
  | false => exact keyword_no s w h

end Go.Proofs.YtbjdnniklcmcbaaDoor
