/- The variables of Go's own library that the rows list, as the program's text lays them: one start has them so; where they lie so ErrRange holds an error, and the powers of ten are what they are. -/
import Derived.Test.YtbjdnniklcmcbaaDoorPn
import Derived.Test.YtbjdnniklcmcbaaDoorCards
import Derived.Test.YtbjdnniklcmcbaaDoorTie
import Derived.ProofKit
import Derived.LaidMore
import Derived.OpenShut
import Derived.Stop.Joined
import Derived.Stop.LaidErr
import Derived.SevenTiedAt
import Derived.Lib.LaidTab
namespace Go.Proofs.YtbjdnniklcmcbaaDoor
open Go.ChangeShapes Go.WideShapes Go.ChangeAt Go.WideMaps Go.WideElems Go.RowKit

theorem own : ownKnob Tryd.prog.godebug = none := by kernel_rfl

def laid5 : List (String × DataW Unit) := [("math/bits.deBruijn32tab", Rows.laid_math_bits_deBruijn32tab), ("math/bits.deBruijn64tab", Rows.laid_math_bits_deBruijn64tab), ("internal/strconv.uint64pow10", Rows.laid_internal_strconv_uint64pow10), ("strconv.ErrRange", Rows.laid_strconv_ErrRange), ("strconv.ErrSyntax", Rows.laid_strconv_ErrSyntax)]

set_option maxRecDepth 100000 in
theorem door_met (os : Os) (args : Array Value) : laidMetH Tryd.prog laid5 ((World.doorLaid Tryd.prog 400 os).forCall (fun _ _ => 0) ⟨#[], args, []⟩).memory :=
  laidMetH_of_parts3 (fuel := 8) (laidMet_of_run' 8 (by kernel_rfl) (by kernel_rfl)) (by kernel_rfl) (by kernel_rfl)

theorem starName : "*" ++ "errors.errorString" = "*errors.errorString" := by decide
theorem rowES (u : TypeId) (h : Tryd.prog.typeName? 3 u = some "*errors.errorString") : u = 108 :=
  typeName_ptr_named (nm := "errors.errorString") (by rw [starName]; kernel_rfl) (by kernel_rfl) (by decide) u (by rw [starName]; exact h)

theorem er_global : Tryd.prog.globalNamed "strconv.ErrRange" = some 2 := by kernel_rfl

theorem er_of_laid {W : World} (h : laidMetH Tryd.prog laid5 W) : Er W := by
  rw [MakeChecks.laidMetH_plain _ _ _ (by kernel_rfl)] at h
  obtain ⟨a, s, hv, -, -, -⟩ := laid_sentinel (tp := 108) (te := 110) (ts := 9) h.tail.tail.tail er_global (ti := 72) (by kernel_rfl) Tryd.underlying72 rowES Tryd.underlying108 Tryd.underlying110 rfl rfl Tryd.underlying9 (by kernel_rfl) (by kernel_rfl)
  exact ⟨_, by have h0 := World.var?_cell er_global hv 0; simpa using h0, .inr ⟨_, _, rfl⟩⟩

theorem pow_global : Tryd.prog.globalNamed "internal/strconv.uint64pow10" = some 3 := by kernel_rfl
theorem pow_type : (Tryd.prog.globals[3]?).map (·.type) = some 103 := by kernel_rfl
theorem pow_cells : Tryd.prog.cellsOf 103 = 20 := by kernel_rfl
theorem u64_cells : Tryd.prog.cellsOf 79 = 1 := by kernel_rfl
theorem pow_data : (Rows.laid_internal_strconv_uint64pow10 : DataW Unit) = Lib.tabData .u64 Lib.pow10Tab := by kernel_rfl
theorem pow_of_laid {W : World} (h : laidMetH Tryd.prog laid5 W) : Pow W.heap.size W := by
  rw [MakeChecks.laidMetH_plain _ _ _ (by kernel_rfl)] at h
  have h2 := h.tail.tail
  rw [pow_data] at h2
  exact Lib.tabBelow_of_tabIs (Lib.tabIs_of_head pow_global pow_type Tryd.underlying103 Tryd.underlying79 u64_cells pow_cells h2)
theorem env_of_laid {W : World} (h : laidMetH Tryd.prog laid5 W) : Env W := ⟨er_of_laid h, pow_of_laid h⟩
#print axioms env_of_laid
end Go.Proofs.YtbjdnniklcmcbaaDoor
