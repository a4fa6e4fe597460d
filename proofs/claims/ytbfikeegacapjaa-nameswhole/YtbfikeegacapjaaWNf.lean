/- Rl8 Nf -/
import Derived.Test.YtbfikeegacapjaaWBs
import Derived.Test.YtbfikeegacapjaaWTq
import Derived.Deep.RegionHeld3
import Derived.Deep.QuietTactic
import Derived.BigQuiet

namespace Go.Proofs.Ytbfikeegacapjaa
open Go.RowKit
attribute [local go_sem] run_store_complex
def flatTs : List (List St) → List St
  | [] => []
  | a :: l => St.flats a ++ flatTs l
end Go.Proofs.Ytbfikeegacapjaa

namespace Go.Proofs.Ytbfikeegacapjaa
open Go.RowKit
attribute [local go_sem] run_store_complex
namespace Nf
def kind : List Dc → ByteArray → Int
  | [], _ => 0
  | y :: d, x => if y.name = x then y.kind else kind d x
def isIn (d : List Dc) (x : ByteArray) : Bool := d.any fun y => decide (y.name = x)
def shared (k : Int) : Bool := (k == 1) || (k == 2) || (k == 3)
def plain (k : Int) : Bool := shared k || (k == 4)
def own (d : List Dc) (s : St) : Bool := if s.kind = 2 ∨ s.kind = 3 then kind d s.name == 5 else if s.kind = 4 ∨ s.kind = 5 then kind d s.name == 6 else true
def right (d : List Dc) (s : St) : Bool := own d s && s.touches.all fun x => plain (kind d x)
def dup : List Dc → List Dc → Option Dc
  | _, [] => none
  | a, y :: r => if isIn a y.name = true then some y else dup (a ++ [y]) r
def wrong (d : List Dc) (l : List St) : Option St := l.find? fun s => !right d s
def check (d : List Dc) (t : List (List St)) : Option (Nat × Nat) := match dup [] d with
  | some y => some (y.re, y.im)
  | none => (wrong d (flatTs t)).map fun s => (s.re, s.im)
def told : Option (Nat × Nat) → Value
  | some (x, y) => .tuple #[.complex .f64 x y, .int .i64 3]
  | none => .tuple #[.complex .f64 0 0, .int .i64 0]
end Nf
set_option maxRecDepth 100000 in
theorem shared_any (k : Int) (w : World) : Calls Try.prog 69 #[.int .i64 k] w fun e w' => e = .returned (.bool (Nf.shared k)) ∧ w' = w := by
  cases h1 : (k == 1) with
  | true =>
    have HE : Hid (Nf.shared k = true) := by unfold Nf.shared; rw [h1]; rfl
    go_enter Try.func69, Try.ntmps69
    go_wp2_with fail
    go_ret
    exact ⟨by rw [HE.out]; rfl, rfl⟩
  | false =>
    cases h2 : (k == 2) with
    | true =>
      have HE : Hid (Nf.shared k = true) := by show _ = _; unfold Nf.shared; rw [h1, h2]; rfl
      go_enter Try.func69, Try.ntmps69
      go_wp2_with fail
      go_ret
      exact ⟨by rw [HE.out]; rfl, rfl⟩
    | false =>
      have HE : Hid (Nf.shared k = (k == 3)) := by unfold Nf.shared; rw [h1, h2]; rfl
      go_enter Try.func69, Try.ntmps69
      go_wp2_with fail
      go_ret
      exact ⟨by rw [HE.out]; rfl, rfl⟩
end Go.Proofs.Ytbfikeegacapjaa
