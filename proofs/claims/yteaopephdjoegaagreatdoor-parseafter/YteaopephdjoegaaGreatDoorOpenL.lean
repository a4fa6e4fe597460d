/- A slice of numbers that came in, opened, and shut again in whatever memory keeps it. -/
import Derived.Test.YteaopephdjoegaaGreatDoorLaid
import Derived.Test.YteaopephdjoegaaGreatDoorHd
namespace Go.Proofs.YteaopephdjoegaaGreatDoor
open Go.ChangeShapes Go.WideShapes Go.ChangeAt Go.WideMaps Go.WideElems Go.RowKit

theorem wf_i64 {n : Int} (h : (Lit.int .i64 n).wf = true) : -9223372036854775808 ≤ n ∧ n ≤ 9223372036854775807 := bounds_i64 h
theorem bytes3 : Tryz.prog.bytesOf 3 = 8 := by kernel_rfl

set_option maxRecDepth 100000 in
theorem open_list {H : Type} {enc : TypeId × Value → H} {W : World} {b0 : Nat} {v : Value} {d : DataW H} {p : List MemPlace} (hval : Value.okWide Tryz.prog W .any b0 45 v)
    (h : DataW.Trod enc Tryz.prog W 0 (fun _ => true) true 45 v d p) :
    ∃ l : List Int, IntsR W W.heap.size l v ∧ (∀ n, (∀ elems spare, d = .slice elems spare → elems.length ≤ n) → l.length ≤ n) ∧ ∀ W', Kept W W' → DataW.Trod enc Tryz.prog W' 0 (fun b => decide (b < W.heap.size)) true 45 v d p := by
  obtain ⟨a0, len, cap, rfl⟩ := okWide_slice Tryz.underlying45 hval
  obtain ⟨fuel, hf⟩ := h
  have hc : Tryz.prog.cellsOf 3 = 1 := by kernel_rfl
  rcases open_ints Tryz.underlying45 Tryz.underlying3 hc hf with ⟨hcs, hx⟩ | ⟨a, len', cap', zs, hcs, hb, hl, hm, hz, hx, hcell, hw⟩
  · simp [Value.cells] at hcs
    obtain ⟨rfl, rfl, rfl⟩ := hcs
    simp only [Prod.mk.injEq] at hx
    obtain ⟨rfl, rfl⟩ := hx
    exact ⟨[], ⟨none, 0, rfl, by simp, by omega, fun i hi => by simp at hi, fun x hx => by cases hx⟩, fun n _ => Nat.zero_le _, fun W' _ => shut_slice_nil Tryz.underlying45⟩
  · simp [Value.cells] at hcs
    obtain ⟨rfl, rfl, rfl⟩ := hcs
    simp only [Prod.mk.injEq] at hx
    obtain ⟨rfl, rfl⟩ := hx
    simp only [if_true] at hz
    have hlt : (zs.take len).length = len := by rw [List.length_take]; omega
    refine ⟨zs.take len, ⟨some a, cap, by rw [hlt], by rw [hlt]; exact hl, by unfold maxLen at hm; omega, fun j hj => ?_, fun x hx => wf_i64 (hw x (List.mem_of_mem_take hx))⟩, fun n hn => ?_, fun W' hk => ⟨2, ?_⟩⟩
    · rw [hlt] at hj
      obtain ⟨b, o, rfl, hcc⟩ := ints_at hcell (by omega)
      have h1 := hcc j (by omega)
      refine ⟨b, o, rfl, World.block_lt_of_cell? W _ h1, ?_⟩
      rw [h1, List.getElem_take]
      simp [List.getD, show j < zs.length by omega]
    · have := hn _ _ rfl
      simpa [lits] using this
    · exact shut_ints 0 Tryz.underlying45 Tryz.underlying3 hc hb hl hm (by
        by_cases h0 : zs.length = 0
        · rw [h0]; split <;> omega
        · have := World.block_lt_of_cell? W _ (hcell 0 (by omega))
          have hb' : a.block < W.heap.size := by rw [← block_add a 0]; exact this
          rw [if_pos (by simpa using hb')]; exact hz) (fun i hi => (hk.cell (World.block_lt_of_cell? W _ (hcell i hi))).trans (hcell i hi)) hw

end Go.Proofs.YteaopephdjoegaaGreatDoor
