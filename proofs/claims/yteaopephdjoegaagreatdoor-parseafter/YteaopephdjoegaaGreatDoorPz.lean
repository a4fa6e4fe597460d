/- What the maker of programs answers. -/
import Derived.Test.YteaopephdjoegaaGreatDoorPr
import Derived.Test.YteaopephdjoegaaGreatDoorSm
namespace Go.Proofs.YteaopephdjoegaaGreatDoor
open Go.RowKit
theorem prog_any (how : Int) (la lb lc : List Ac) (va vb vc : Value) (most : Int) (w : World) (hh1 : -9223372036854775808 ≤ how) (hh2 : how ≤ 9223372036854775807) (ha : ActsR w w.heap.size la va) (hb : ActsR w w.heap.size lb vb) (hc : ActsR w w.heap.size lc vc) (hm1 : most ≤ 1000) (hm2 : -1000 ≤ most) :
    Calls Tryz.prog 13 #[.int .i64 how, va, vb, vc, .int .i64 most] w fun r w' => MadeP w most lc.length r w' :=
  prog_of (fun l W hi v most h1 h2 h3 h4 h5 => stmts_any 16 l W hi v most 1 h1 (Nat.le_refl _) h2 h3 h4 h5 (by omega) (by omega)) how la lb lc va vb vc most w hh1 hh2 ha hb hc hm1 hm2
#print axioms prog_any
end Go.Proofs.YteaopephdjoegaaGreatDoor
