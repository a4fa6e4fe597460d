/- Rows of one and of two expressions; what is behind a last store. -/
import Derived.Test.YteaopephdjoegaaGreatDoorRows
import Derived.WalkKit
import Derived.WalkSpells
import Derived.WalkLawsBesides
import Derived.Test.YteaopephdjoegaaGreatDoorAp
namespace Go.Proofs.YteaopephdjoegaaGreatDoor
open Go.RowKit

theorem ExsD.nil (w : World) (D : Nat → Prop) : ExsD w D [] (.slice none 0 0) :=
  .mk [] none 0 (fun _ => undef) ⟨Nat.le_refl _, by unfold maxLen; omega, fun _ => rfl⟩ (fun i hi => by simp at hi) fun i hi => by simp at hi

/-- A row of one. -/
theorem ExsD.one {w : World} {D : Nat → Prop} {g : Nat} {e : Ex} {v : Value} (hD : D g) (hg : w.heap[g]? = some (.cells #[.int .i64 e.kind, .int .i64 e.n, .string e.name, v] 79 (0, 0))) (hv : ExsD w D e.of v) : ExsD w D [e] (.slice (some ⟨g, 0, none⟩) 1 1) := by
  refine .mk [e] (some ⟨g, 0, none⟩) 1 (fun _ => v) ⟨Nat.le_refl _, by unfold maxLen; omega, fun h => by cases h⟩ (fun i hi => ?_) fun i hi => ?_
  · obtain rfl : i = 0 := by simpa using hi
    refine ⟨g, 0, rfl, hD, fun j => frozen_of_row w g j _ _ hg, fun j u hu => ?_⟩
    rw [cell_of_row w g _ _ _ (0, 0) hg]
    match j, hu with
    | 0, hu | 1, hu | 2, hu | 3, hu => simpa [List.getD, Ex.cells] using hu
  · obtain rfl : i = 0 := by simpa using hi
    exact hv
/-- A row of two. -/
theorem ExsD.two {w : World} {D : Nat → Prop} {g : Nat} {e f : Ex} {v u : Value} (hD : D g) (hg : w.heap[g]? = some (.cells #[.int .i64 e.kind, .int .i64 e.n, .string e.name, v, .int .i64 f.kind, .int .i64 f.n, .string f.name, u] 79 (0, 0))) (hv : ExsD w D e.of v) (hu : ExsD w D f.of u) : ExsD w D [e, f] (.slice (some ⟨g, 0, none⟩) 2 2) := by
  refine .mk [e, f] (some ⟨g, 0, none⟩) 2 (fun i => if i = 0 then v else u) ⟨Nat.le_refl _, by unfold maxLen; omega, fun h => by cases h⟩ (fun i hi => ?_) fun i hi => ?_
  · refine ⟨g, 0, rfl, hD, fun j => frozen_of_row w g j _ _ hg, fun j x hx => ?_⟩
    rw [cell_of_row w g _ _ _ (0, 0) hg]
    match i, hi with
    | 0, _ =>
      match j, hx with
      | 0, hu | 1, hu | 2, hu | 3, hu => simpa [List.getD, Ex.cells] using hu
    | 1, _ =>
      match j, hx with
      | 0, hu | 1, hu | 2, hu | 3, hu => simpa [List.getD, Ex.cells] using hu
  · match i, hi with
    | 0, _ => exact hv
    | 1, _ => exact hu


/-- What is behind the last store. -/
theorem made_fin {w w1 : World} {cs : List Value} (hk : Kept w w1) (hT : w1.there w.heap.size 0 4) (hl : cs.length = 4) (obj : Obj) :
    let Wf := (w1.setCells w.heap.size 0 cs).alloc obj
    Kept w Wf ∧ Wf.rangeAt w.heap.size 0 cs ∧ Wf.heap[w1.heap.size]? = some obj ∧ Wf.heap.size = w1.heap.size + 1 ∧ StaysD (Rng (w.heap.size + 1) w1.heap.size) w1 Wf := by
  have hz := size_setCells w.heap.size cs 0 w1
  have hB : w.heap.size < w1.heap.size := by
    obtain ⟨v, hv⟩ := Option.isSome_iff_exists.1 (hT 0 (by omega)).1
    exact World.block_lt_of_cell? _ _ hv
  refine ⟨Kept.al (Below.setCells hk (Nat.le_refl _) _ _) _, fun j v hv => ?_, ?_, ?_, fun i hi => ?_⟩
  · have h1 := World.rangeAt_setCells_same w1 w.heap.size 0 cs (by rw [hl]; exact hT) j v hv
    exact ((Kept.refl _).al obj).cellS h1
  · rw [← hz]; exact heap_alloc_new _ _
  · rw [← hz]; simp
  · rw [Below.heap_alloc _ _ _ (by have := hi.2; omega)]
    exact heap_setCells _ _ _ _ i (by have := hi.1; omega)


end Go.Proofs.YteaopephdjoegaaGreatDoor
