/- The variables of Go's own library that the rows list: where they lie as the program's text lays them the powers of ten are what they are. -/
import Derived.Test.YtkobdephobaopaaGreatDoorLaA
import Derived.Test.YtkobdephobaopaaGreatDoorWtA
import Derived.Lib.LaidTab
namespace Go.Proofs.YtkobdephobaopaaGreatDoor
open Go.RowKit
theorem pow_global : Tryz.prog.globalNamed "internal/strconv.uint64pow10" = some 3 := by kernel_rfl
theorem pow_type : (Tryz.prog.globals[3]?).map (·.type) = some 198 := by kernel_rfl
theorem pow_cells : Tryz.prog.cellsOf 198 = 20 := by kernel_rfl
theorem u64_cells : Tryz.prog.cellsOf 171 = 1 := by kernel_rfl
theorem pow_data : (Rows.laid_internal_strconv_uint64pow10 : DataW Unit) = Lib.tabData .u64 Lib.pow10Tab := by kernel_rfl
theorem pow_of_laid {W : World} (h : laidMetH Tryz.prog laid5 W) : Pow W.heap.size W := by
  rw [MakeChecks.laidMetH_plain _ _ _ (by kernel_rfl)] at h
  have h2 := h.tail.tail
  rw [pow_data] at h2
  exact Lib.tabBelow_of_tabIs (Lib.tabIs_of_head pow_global pow_type Tryz.underlying198 Tryz.underlying171 u64_cells pow_cells h2)
theorem env_of_laid {W : World} (h : laidMetH Tryz.prog laid5 W) : Env W := ⟨er_of_laid h, pow_of_laid h⟩
#print axioms env_of_laid
end Go.Proofs.YtkobdephobaopaaGreatDoor
