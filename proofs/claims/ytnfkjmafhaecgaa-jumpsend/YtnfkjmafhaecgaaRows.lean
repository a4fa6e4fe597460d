/-
  No cell of these rows narrows 'for every input' (looked for: loops, veiled, ifaces, maps, wideKeys, modest, calm, conditions, laid).
  DERIVED. THE GIVEN ROWS OF THIS SEAT. 5 by the template 'for every input the law returns true; each argument reads behind the call as it read before'; 0 by the template 'total and deterministic' (their statements: YtnfkjmafhaecgaaTotals.lean).
  GIVEN WITH THE SEED: the statements are not yours to turn. If you find one false, say at which input.
  Laid BY PROGRAM, IN A SANDBOX (cutbox-rows.mjs): the forced cells as the released guide's own fill.sh prints them over the translation 46c867168ea49d0f… (all of the seat's roots in one cut). By AI agents, Wed Nov 11 2026. No macro, syntax, notation, axiom, sorry.
-/
import Derived.Test.YtnfkjmafhaecgaaChecked
import GoSem.Claim
import GoSem.ClaimJoined
import GoSem.ClaimMapViews
import Derived.JoinedTies
import Derived.KernelRfl
namespace Go.Proofs.Ytnfkjmafhaecgaa
/- THE CELL 'sum', in the pinned program and in every row, IS THE sha256 OF THE DUMP (.gsa) THAT YtnfkjmafhaecgaaProg.lean LOADS. Nothing in Lean hashes anything: it is a label: what it is worth is what the hold of that sum in a sandbox is worth. -/
noncomputable def Try.pinned : Pinned := { name := "ytnfkjmafhaecgaa", sum := "46c867168ea49d0f5ee3814c0c84ce66cf1bf95e7f69f353f5d62b945cb7f319", checked := Try.checked }
namespace Rows
def none {H : Type} : Left H := { results := [], args := [] }

/-- 'suturelaw9.JumpsTells': WHATEVER THE INPUT: true; the input reads as it did. -/
def jumpsTellsSpec : ChangeSpec := { name := "jumpsTells", fn := fun _ => fun
  | [d1, d2, d3, d4, d5] => { results := [.lit (.bool true)], args := [d1, d2, d3, d4, d5] }
  | _ => none }
def jumpsTellsRow : OpenClaim := { program := "ytnfkjmafhaecgaa", sum := "46c867168ea49d0f5ee3814c0c84ce66cf1bf95e7f69f353f5d62b945cb7f319", func := "suture/suturelaw9.JumpsTells", spec := "jumpsTells", recurses := true, apart := false }
def JumpsTellsSaid : Prop := jumpsTellsRow.holds Try.pinned (OpenSpec.ofChange jumpsTellsSpec)

/-- ITS FALSE NEIGHBOUR: 'it returns false'. Refute it at one input. -/
def jumpsTellsWrong : ChangeSpec := { name := "jumpsTells", fn := fun _ => fun
  | [d1, d2, d3, d4, d5] => { results := [.lit (.bool false)], args := [d1, d2, d3, d4, d5] }
  | _ => none }
def JumpsTellsWrongFalsely : Prop := jumpsTellsRow.holds Try.pinned (OpenSpec.ofChange jumpsTellsWrong)

/-- 'suturelaw9.JumpsEnd': WHATEVER THE INPUT: true; the input reads as it did. -/
def jumpsEndSpec : ChangeSpec := { name := "jumpsEnd", fn := fun _ => fun
  | [d] => { results := [.lit (.bool true)], args := [d] }
  | _ => none }
def jumpsEndRow : OpenClaim := { program := "ytnfkjmafhaecgaa", sum := "46c867168ea49d0f5ee3814c0c84ce66cf1bf95e7f69f353f5d62b945cb7f319", func := "suture/suturelaw9.JumpsEnd", spec := "jumpsEnd", recurses := true, apart := false }
def JumpsEndSaid : Prop := jumpsEndRow.holds Try.pinned (OpenSpec.ofChange jumpsEndSpec)

/-- ITS FALSE NEIGHBOUR: 'it returns false'. Refute it at one input. -/
def jumpsEndWrong : ChangeSpec := { name := "jumpsEnd", fn := fun _ => fun
  | [d] => { results := [.lit (.bool false)], args := [d] }
  | _ => none }
def JumpsEndWrongFalsely : Prop := jumpsEndRow.holds Try.pinned (OpenSpec.ofChange jumpsEndWrong)

/-- 'suturelaw10.BoundKnown': WHATEVER THE INPUT: true; the input reads as it did. -/
def boundKnownSpec : ChangeSpec := { name := "boundKnown", fn := fun _ => fun
  | [] => { results := [.lit (.bool true)], args := [] }
  | _ => none }
def boundKnownRow : OpenClaim := { program := "ytnfkjmafhaecgaa", sum := "46c867168ea49d0f5ee3814c0c84ce66cf1bf95e7f69f353f5d62b945cb7f319", func := "suture/suturelaw10.BoundKnown", spec := "boundKnown", recurses := true, apart := false }
def BoundKnownSaid : Prop := boundKnownRow.holds Try.pinned (OpenSpec.ofChange boundKnownSpec)

/-- ITS FALSE NEIGHBOUR: 'it returns false'. Refute it at one input. -/
def boundKnownWrong : ChangeSpec := { name := "boundKnown", fn := fun _ => fun
  | [] => { results := [.lit (.bool false)], args := [] }
  | _ => none }
def BoundKnownWrongFalsely : Prop := boundKnownRow.holds Try.pinned (OpenSpec.ofChange boundKnownWrong)

/-- 'suturelaw10.BoundTells': WHATEVER THE INPUT: true; the input reads as it did. -/
def boundTellsSpec : ChangeSpec := { name := "boundTells", fn := fun _ => fun
  | [d1, d2, d3, d4, d5, d6] => { results := [.lit (.bool true)], args := [d1, d2, d3, d4, d5, d6] }
  | _ => none }
def boundTellsRow : OpenClaim := { program := "ytnfkjmafhaecgaa", sum := "46c867168ea49d0f5ee3814c0c84ce66cf1bf95e7f69f353f5d62b945cb7f319", func := "suture/suturelaw10.BoundTells", spec := "boundTells", recurses := true, apart := false }
def BoundTellsSaid : Prop := boundTellsRow.holds Try.pinned (OpenSpec.ofChange boundTellsSpec)

/-- ITS FALSE NEIGHBOUR: 'it returns false'. Refute it at one input. -/
def boundTellsWrong : ChangeSpec := { name := "boundTells", fn := fun _ => fun
  | [d1, d2, d3, d4, d5, d6] => { results := [.lit (.bool false)], args := [d1, d2, d3, d4, d5, d6] }
  | _ => none }
def BoundTellsWrongFalsely : Prop := boundTellsRow.holds Try.pinned (OpenSpec.ofChange boundTellsWrong)

/-- 'suturelaw10.BoundAdds': WHATEVER THE INPUT: true; the input reads as it did. -/
def boundAddsSpec : ChangeSpec := { name := "boundAdds", fn := fun _ => fun
  | [d1, d2, d3] => { results := [.lit (.bool true)], args := [d1, d2, d3] }
  | _ => none }
def boundAddsRow : OpenClaim := { program := "ytnfkjmafhaecgaa", sum := "46c867168ea49d0f5ee3814c0c84ce66cf1bf95e7f69f353f5d62b945cb7f319", func := "suture/suturelaw10.BoundAdds", spec := "boundAdds", recurses := true, apart := false }
def BoundAddsSaid : Prop := boundAddsRow.holds Try.pinned (OpenSpec.ofChange boundAddsSpec)

/-- ITS FALSE NEIGHBOUR: 'it returns false'. Refute it at one input. -/
def boundAddsWrong : ChangeSpec := { name := "boundAdds", fn := fun _ => fun
  | [d1, d2, d3] => { results := [.lit (.bool false)], args := [d1, d2, d3] }
  | _ => none }
def BoundAddsWrongFalsely : Prop := boundAddsRow.holds Try.pinned (OpenSpec.ofChange boundAddsWrong)

/- THE SECOND FORM. 'bulk': how many values and letters a reading holds, each counted each time it is reached (what is shared counts as often as it is met; a slice's spare places count too). A statement '..UptoSaid' is the law's where the arguments, and the package variables that the reading takes, are together of bulk at most 1048576: NARROWER than '..Said'. Prove '..Said' where nothing that the law and all that it calls make is longer than what came in: it says more and counts as full. Else prove '..UptoSaid'. A law counts once. -/
mutual
def uptoBulk {H : Type} : DataW H → Nat
  | .lit (.string bytes) => bytes.length + 1
  | .lit _ => 1
  | .nil => 1
  | .ptr d => uptoBulk d + 1
  | .slice elems spare => uptoBulkAll elems + uptoBulkAll spare + 1
  | .agg parts => uptoBulkAll parts + 1
  | .iface _ d => uptoBulk d + 1
  | .map entries => uptoBulkEntries entries + 1
  | .held _ => 1
def uptoBulkAll {H : Type} : List (DataW H) → Nat
  | [] => 0
  | d :: r => uptoBulk d + uptoBulkAll r
def uptoBulkEntries {H : Type} : List (Lit × DataW H) → Nat
  | [] => 0
  | x :: r => uptoBulkEntry x + uptoBulkEntries r
def uptoBulkEntry {H : Type} : Lit × DataW H → Nat
  | (.string bytes, d) => bytes.length + uptoBulk d + 1
  | (_, d) => uptoBulk d + 1
 end
def uptoSmall : (H : Type) → List (DataW H) → Bool := fun _ ds => decide (uptoBulkAll ds ≤ 1048576)
def OpenSpec.upto (s : _root_.Go.ChangeSpec) : _root_.Go.OpenSpec := { _root_.Go.OpenSpec.ofChange s with cond := some uptoSmall }

/-- 'suturelaw9.JumpsTells', WHERE WHAT IT READS IS OF BULK AT MOST 1048576: true; the input reads as it did. -/
def jumpsTellsUptoRow : OpenClaim := { program := "ytnfkjmafhaecgaa", sum := "46c867168ea49d0f5ee3814c0c84ce66cf1bf95e7f69f353f5d62b945cb7f319", func := "suture/suturelaw9.JumpsTells", spec := "jumpsTells", recurses := true, apart := false, narrowed := true }
def JumpsTellsUptoSaid : Prop := jumpsTellsUptoRow.holds Try.pinned (OpenSpec.upto jumpsTellsSpec)

/-- 'suturelaw9.JumpsEnd', WHERE WHAT IT READS IS OF BULK AT MOST 1048576: true; the input reads as it did. -/
def jumpsEndUptoRow : OpenClaim := { program := "ytnfkjmafhaecgaa", sum := "46c867168ea49d0f5ee3814c0c84ce66cf1bf95e7f69f353f5d62b945cb7f319", func := "suture/suturelaw9.JumpsEnd", spec := "jumpsEnd", recurses := true, apart := false, narrowed := true }
def JumpsEndUptoSaid : Prop := jumpsEndUptoRow.holds Try.pinned (OpenSpec.upto jumpsEndSpec)

/-- 'suturelaw10.BoundKnown', WHERE WHAT IT READS IS OF BULK AT MOST 1048576: true; the input reads as it did. -/
def boundKnownUptoRow : OpenClaim := { program := "ytnfkjmafhaecgaa", sum := "46c867168ea49d0f5ee3814c0c84ce66cf1bf95e7f69f353f5d62b945cb7f319", func := "suture/suturelaw10.BoundKnown", spec := "boundKnown", recurses := true, apart := false, narrowed := true }
def BoundKnownUptoSaid : Prop := boundKnownUptoRow.holds Try.pinned (OpenSpec.upto boundKnownSpec)

/-- 'suturelaw10.BoundTells', WHERE WHAT IT READS IS OF BULK AT MOST 1048576: true; the input reads as it did. -/
def boundTellsUptoRow : OpenClaim := { program := "ytnfkjmafhaecgaa", sum := "46c867168ea49d0f5ee3814c0c84ce66cf1bf95e7f69f353f5d62b945cb7f319", func := "suture/suturelaw10.BoundTells", spec := "boundTells", recurses := true, apart := false, narrowed := true }
def BoundTellsUptoSaid : Prop := boundTellsUptoRow.holds Try.pinned (OpenSpec.upto boundTellsSpec)

/-- 'suturelaw10.BoundAdds', WHERE WHAT IT READS IS OF BULK AT MOST 1048576: true; the input reads as it did. -/
def boundAddsUptoRow : OpenClaim := { program := "ytnfkjmafhaecgaa", sum := "46c867168ea49d0f5ee3814c0c84ce66cf1bf95e7f69f353f5d62b945cb7f319", func := "suture/suturelaw10.BoundAdds", spec := "boundAdds", recurses := true, apart := false, narrowed := true }
def BoundAddsUptoSaid : Prop := boundAddsUptoRow.holds Try.pinned (OpenSpec.upto boundAddsSpec)

end Rows
end Go.Proofs.Ytnfkjmafhaecgaa
