/-
  No cell of these rows narrows 'for every input' (looked for: loops, veiled, ifaces, maps, wideKeys, modest, calm, conditions, laid).
  DERIVED. THE GIVEN ROWS OF THIS SEAT. 4 by the template 'for every input the law returns true; each argument reads behind the call as it read before'; 0 by the template 'total and deterministic' (their statements: YtdodpeneehbbkabTotals.lean).
  GIVEN WITH THE SEED: the statements are not yours to turn. If you find one false, say at which input.
  Laid BY PROGRAM, IN A SANDBOX (cutbox-rows.mjs): the forced cells as the released guide's own fill.sh prints them over the translation 7d920d677df575d8… (all of the seat's roots in one cut). By AI agents, Wed Nov 11 2026. No macro, syntax, notation, axiom, sorry.
-/
import Derived.Test.YtdodpeneehbbkabChecked
import GoSem.Claim
import GoSem.ClaimJoined
import GoSem.ClaimMapViews
import Derived.JoinedTies
import Derived.KernelRfl
namespace Go.Proofs.Ytdodpeneehbbkab
/- THE CELL 'sum', in the pinned program and in every row, IS THE sha256 OF THE DUMP (.gsa) THAT YtdodpeneehbbkabProg.lean LOADS. Nothing in Lean hashes anything: it is a label: what it is worth is what the hold of that sum in a sandbox is worth. -/
noncomputable def Try.pinned : Pinned := { name := "ytdodpeneehbbkab", sum := "7d920d677df575d8065db5431407e6d60fca449636a9d1c4bd34786cfd856bf4", checked := Try.checked }
namespace Rows
def none {H : Type} : Left H := { results := [], args := [] }

/-- 'suturelaw8.NamesKnown': WHATEVER THE INPUT: true; the input reads as it did. -/
def namesKnownSpec : ChangeSpec := { name := "namesKnown", fn := fun _ => fun
  | [] => { results := [.lit (.bool true)], args := [] }
  | _ => none }
def namesKnownRow : OpenClaim := { program := "ytdodpeneehbbkab", sum := "7d920d677df575d8065db5431407e6d60fca449636a9d1c4bd34786cfd856bf4", func := "suture/suturelaw8.NamesKnown", spec := "namesKnown", recurses := true, apart := false }
def NamesKnownSaid : Prop := namesKnownRow.holds Try.pinned (OpenSpec.ofChange namesKnownSpec)

/-- ITS FALSE NEIGHBOUR: 'it returns false'. Refute it at one input. -/
def namesKnownWrong : ChangeSpec := { name := "namesKnown", fn := fun _ => fun
  | [] => { results := [.lit (.bool false)], args := [] }
  | _ => none }
def NamesKnownWrongFalsely : Prop := namesKnownRow.holds Try.pinned (OpenSpec.ofChange namesKnownWrong)

/-- 'suturelaw8.NamesTells': WHATEVER THE INPUT: true; the input reads as it did. -/
def namesTellsSpec : ChangeSpec := { name := "namesTells", fn := fun _ => fun
  | [d1, d2, d3, d4, d5, d6, d7] => { results := [.lit (.bool true)], args := [d1, d2, d3, d4, d5, d6, d7] }
  | _ => none }
def namesTellsRow : OpenClaim := { program := "ytdodpeneehbbkab", sum := "7d920d677df575d8065db5431407e6d60fca449636a9d1c4bd34786cfd856bf4", func := "suture/suturelaw8.NamesTells", spec := "namesTells", recurses := true, apart := false }
def NamesTellsSaid : Prop := namesTellsRow.holds Try.pinned (OpenSpec.ofChange namesTellsSpec)

/-- ITS FALSE NEIGHBOUR: 'it returns false'. Refute it at one input. -/
def namesTellsWrong : ChangeSpec := { name := "namesTells", fn := fun _ => fun
  | [d1, d2, d3, d4, d5, d6, d7] => { results := [.lit (.bool false)], args := [d1, d2, d3, d4, d5, d6, d7] }
  | _ => none }
def NamesTellsWrongFalsely : Prop := namesTellsRow.holds Try.pinned (OpenSpec.ofChange namesTellsWrong)

/-- 'suturelaw8.NamesWhole': WHATEVER THE INPUT: true; the input reads as it did. -/
def namesWholeSpec : ChangeSpec := { name := "namesWhole", fn := fun _ => fun
  | [d1, d2, d3, d4, d5] => { results := [.lit (.bool true)], args := [d1, d2, d3, d4, d5] }
  | _ => none }
def namesWholeRow : OpenClaim := { program := "ytdodpeneehbbkab", sum := "7d920d677df575d8065db5431407e6d60fca449636a9d1c4bd34786cfd856bf4", func := "suture/suturelaw8.NamesWhole", spec := "namesWhole", recurses := true, apart := false }
def NamesWholeSaid : Prop := namesWholeRow.holds Try.pinned (OpenSpec.ofChange namesWholeSpec)

/-- ITS FALSE NEIGHBOUR: 'it returns false'. Refute it at one input. -/
def namesWholeWrong : ChangeSpec := { name := "namesWhole", fn := fun _ => fun
  | [d1, d2, d3, d4, d5] => { results := [.lit (.bool false)], args := [d1, d2, d3, d4, d5] }
  | _ => none }
def NamesWholeWrongFalsely : Prop := namesWholeRow.holds Try.pinned (OpenSpec.ofChange namesWholeWrong)

/-- 'suturelaw8.NamesFirst': WHATEVER THE INPUT: true; the input reads as it did. -/
def namesFirstSpec : ChangeSpec := { name := "namesFirst", fn := fun _ => fun
  | [d1, d2, d3] => { results := [.lit (.bool true)], args := [d1, d2, d3] }
  | _ => none }
def namesFirstRow : OpenClaim := { program := "ytdodpeneehbbkab", sum := "7d920d677df575d8065db5431407e6d60fca449636a9d1c4bd34786cfd856bf4", func := "suture/suturelaw8.NamesFirst", spec := "namesFirst", recurses := true, apart := false }
def NamesFirstSaid : Prop := namesFirstRow.holds Try.pinned (OpenSpec.ofChange namesFirstSpec)

/-- ITS FALSE NEIGHBOUR: 'it returns false'. Refute it at one input. -/
def namesFirstWrong : ChangeSpec := { name := "namesFirst", fn := fun _ => fun
  | [d1, d2, d3] => { results := [.lit (.bool false)], args := [d1, d2, d3] }
  | _ => none }
def NamesFirstWrongFalsely : Prop := namesFirstRow.holds Try.pinned (OpenSpec.ofChange namesFirstWrong)

/- THE SECOND FORM. 'bulk': how many values and letters a reading holds, each counted each time it is reached (what is shared counts as often as it is met; a slice's spare places count too). A statement '..UptoSaid' is the law's where the arguments, and the package variables that the reading takes, are together of bulk at most 1048576: NARROWER than '..Said'. Prove '..Said' where nothing that the law and all that it calls make is longer than what came in: it says more and counts as full. Else prove '..UptoSaid'. A law counts once. -/
mutual
def uptoBulk {H : Type} : DataW H → Nat
  | .lit (.string bytes) => bytes.length + 1
  | .lit _ => 1
  | .nil => 1
  | .ptr d => uptoBulk d + 1
  | .slice elems spare => uptoBulkAll elems + uptoBulkAll spare + 1
  | .agg parts => uptoBulkAll parts + 1
  | .iface _ d => uptoBulk d + 1
  | .map entries => uptoBulkEntries entries + 1
  | .held _ => 1
def uptoBulkAll {H : Type} : List (DataW H) → Nat
  | [] => 0
  | d :: r => uptoBulk d + uptoBulkAll r
def uptoBulkEntries {H : Type} : List (Lit × DataW H) → Nat
  | [] => 0
  | x :: r => uptoBulkEntry x + uptoBulkEntries r
def uptoBulkEntry {H : Type} : Lit × DataW H → Nat
  | (.string bytes, d) => bytes.length + uptoBulk d + 1
  | (_, d) => uptoBulk d + 1
 end
def uptoSmall : (H : Type) → List (DataW H) → Bool := fun _ ds => decide (uptoBulkAll ds ≤ 1048576)
def OpenSpec.upto (s : _root_.Go.ChangeSpec) : _root_.Go.OpenSpec := { _root_.Go.OpenSpec.ofChange s with cond := some uptoSmall }

/-- 'suturelaw8.NamesKnown', WHERE WHAT IT READS IS OF BULK AT MOST 1048576: true; the input reads as it did. -/
def namesKnownUptoRow : OpenClaim := { program := "ytdodpeneehbbkab", sum := "7d920d677df575d8065db5431407e6d60fca449636a9d1c4bd34786cfd856bf4", func := "suture/suturelaw8.NamesKnown", spec := "namesKnown", recurses := true, apart := false, narrowed := true }
def NamesKnownUptoSaid : Prop := namesKnownUptoRow.holds Try.pinned (OpenSpec.upto namesKnownSpec)

/-- 'suturelaw8.NamesTells', WHERE WHAT IT READS IS OF BULK AT MOST 1048576: true; the input reads as it did. -/
def namesTellsUptoRow : OpenClaim := { program := "ytdodpeneehbbkab", sum := "7d920d677df575d8065db5431407e6d60fca449636a9d1c4bd34786cfd856bf4", func := "suture/suturelaw8.NamesTells", spec := "namesTells", recurses := true, apart := false, narrowed := true }
def NamesTellsUptoSaid : Prop := namesTellsUptoRow.holds Try.pinned (OpenSpec.upto namesTellsSpec)

/-- 'suturelaw8.NamesWhole', WHERE WHAT IT READS IS OF BULK AT MOST 1048576: true; the input reads as it did. -/
def namesWholeUptoRow : OpenClaim := { program := "ytdodpeneehbbkab", sum := "7d920d677df575d8065db5431407e6d60fca449636a9d1c4bd34786cfd856bf4", func := "suture/suturelaw8.NamesWhole", spec := "namesWhole", recurses := true, apart := false, narrowed := true }
def NamesWholeUptoSaid : Prop := namesWholeUptoRow.holds Try.pinned (OpenSpec.upto namesWholeSpec)

/-- 'suturelaw8.NamesFirst', WHERE WHAT IT READS IS OF BULK AT MOST 1048576: true; the input reads as it did. -/
def namesFirstUptoRow : OpenClaim := { program := "ytdodpeneehbbkab", sum := "7d920d677df575d8065db5431407e6d60fca449636a9d1c4bd34786cfd856bf4", func := "suture/suturelaw8.NamesFirst", spec := "namesFirst", recurses := true, apart := false, narrowed := true }
def NamesFirstUptoSaid : Prop := namesFirstUptoRow.holds Try.pinned (OpenSpec.upto namesFirstSpec)

end Rows
end Go.Proofs.Ytdodpeneehbbkab
