/- Nl -/
import Derived.Test.YtdodpeneehbbkabZNk
import Derived.WalkKit
import Derived.Laws.Tables
import Derived.Deep.WholeRow

namespace Go.Proofs.Ytdodpeneehbbkab
open Go.RowKit
def sP : ByteArray := ⟨([118, 97, 114, 32, 120, 32, 119, 105, 100, 101, 32, 121, 32, 97, 116, 111, 109, 105, 99, 32, 122, 32, 108, 111, 99, 97, 108, 32, 116, 32, 109, 117, 116, 101, 120, 32, 109, 32, 99, 104, 97, 110, 32, 99, 32, 49, 32, 103, 111, 123, 120, 61, 121, 43, 122, 42].append [116, 32, 108, 111, 99, 107, 32, 109, 32, 117, 110, 108, 111, 99, 107, 32, 109, 32, 115, 101, 110, 100, 32, 99, 32, 120, 32, 114, 101, 99, 118, 32, 99, 32, 122, 32, 112, 114, 105, 110, 116, 32, 116, 32, 103, 111, 116, 111, 32, 110, 111, 119, 104, 101, 114, 101, 125]).toArray⟩
def badS : List (List UInt8) := [[118, 97, 114, 32, 120, 32, 119, 105, 100, 101, 32, 120, 32, 103, 111, 123, 125], [109, 117, 116, 101, 120, 32, 109, 32, 103, 111, 123, 109, 61, 49, 125], [118, 97, 114, 32, 120, 32, 103, 111, 123, 108, 111, 99, 107, 32, 120, 125], [118, 97, 114, 32, 120, 32, 103, 111, 123, 115, 101, 110, 100, 32, 120, 32, 49, 125], [99, 104, 97, 110, 32, 99, 32, 48, 32, 103, 111, 123, 114, 101, 99, 118, 32, 99, 32, 99, 125], [99, 104, 97, 110, 32, 99, 32, 48, 32, 103, 111, 123, 115, 101, 110, 100, 32, 99, 32, 99, 125], [103, 111, 123, 112, 114, 105, 110, 116, 32, 121, 125], [103, 111, 123, 105, 102, 32, 121, 123, 125, 125], [118, 97, 114, 32, 120, 32, 103, 111, 123, 105, 102, 32, 120, 123, 114, 101, 112, 101, 97, 116, 32, 50, 123, 117, 110, 108, 111, 99, 107, 32, 120, 125, 125, 125], [103, 111, 123, 108, 111, 99, 107, 32, 109, 125], [109, 117, 116, 101, 120, 32, 109, 32, 103, 111, 123, 114, 101, 99, 118, 32, 109, 32, 109, 125], [118, 97, 114, 32, 120, 32, 103, 111, 123, 120, 61, 120, 43, 121, 125]]
def badAt : List Nat := [6, 11, 9, 9, 12, 12, 3, 3, 23, 3, 11, 9]
def badB (k : Nat) : ByteArray := ⟨(badS.getD k []).toArray⟩
def badCells : Array Value := (badS.map fun s => Value.string ⟨s.toArray⟩).toArray
def atCells : Array Value := (badAt.map fun (n : Nat) => Value.int .i64 (n : Int)).toArray
theorem bo0 : ckOf (badB 0) = some (some (lineW (badB 0) (badAt.getD 0 0), colW (badB 0) (badAt.getD 0 0))) := by kernel_rfl
theorem bo1 : ckOf (badB 1) = some (some (lineW (badB 1) (badAt.getD 1 0), colW (badB 1) (badAt.getD 1 0))) := by kernel_rfl
theorem bo2 : ckOf (badB 2) = some (some (lineW (badB 2) (badAt.getD 2 0), colW (badB 2) (badAt.getD 2 0))) := by kernel_rfl
theorem bo3 : ckOf (badB 3) = some (some (lineW (badB 3) (badAt.getD 3 0), colW (badB 3) (badAt.getD 3 0))) := by kernel_rfl
theorem bo4 : ckOf (badB 4) = some (some (lineW (badB 4) (badAt.getD 4 0), colW (badB 4) (badAt.getD 4 0))) := by kernel_rfl
theorem bo5 : ckOf (badB 5) = some (some (lineW (badB 5) (badAt.getD 5 0), colW (badB 5) (badAt.getD 5 0))) := by kernel_rfl
theorem bo6 : ckOf (badB 6) = some (some (lineW (badB 6) (badAt.getD 6 0), colW (badB 6) (badAt.getD 6 0))) := by kernel_rfl
theorem bo7 : ckOf (badB 7) = some (some (lineW (badB 7) (badAt.getD 7 0), colW (badB 7) (badAt.getD 7 0))) := by kernel_rfl
theorem bo8 : ckOf (badB 8) = some (some (lineW (badB 8) (badAt.getD 8 0), colW (badB 8) (badAt.getD 8 0))) := by kernel_rfl
theorem bo9 : ckOf (badB 9) = some (some (lineW (badB 9) (badAt.getD 9 0), colW (badB 9) (badAt.getD 9 0))) := by kernel_rfl
theorem bo10 : ckOf (badB 10) = some (some (lineW (badB 10) (badAt.getD 10 0), colW (badB 10) (badAt.getD 10 0))) := by kernel_rfl
theorem bo11 : ckOf (badB 11) = some (some (lineW (badB 11) (badAt.getD 11 0), colW (badB 11) (badAt.getD 11 0))) := by kernel_rfl
theorem bad_out (k : Nat) (hk : k < 12) : ckOf (badB k) = some (some (lineW (badB k) (badAt.getD k 0), colW (badB k) (badAt.getD k 0))) := by
  match k, hk with
  | 0, _ => exact bo0
  | 1, _ => exact bo1
  | 2, _ => exact bo2
  | 3, _ => exact bo3
  | 4, _ => exact bo4
  | 5, _ => exact bo5
  | 6, _ => exact bo6
  | 7, _ => exact bo7
  | 8, _ => exact bo8
  | 9, _ => exact bo9
  | 10, _ => exact bo10
  | 11, _ => exact bo11
  | j + 12, h => exact absurd h (by omega)
theorem bad_size (k : Nat) (hk : k < 12) : (badB k).size ≤ 100 ∧ badAt.getD k 0 ≤ (badB k).size := by
  have h : ∀ k : Nat, k < 12 → (badB k).size ≤ 100 ∧ badAt.getD k 0 ≤ (badB k).size := by decide +kernel
  exact h k hk
theorem bad_built (a : Act) : Try.prog.built 22 ((#[(0, Operand.const (.string ⟨#[118, 97, 114, 32, 120, 32, 119, 105, 100, 101, 32, 120, 32, 103, 111, 123, 125]⟩)), (1, Operand.const (.string ⟨#[109, 117, 116, 101, 120, 32, 109, 32, 103, 111, 123, 109, 61, 49, 125]⟩)), (2, Operand.const (.string ⟨#[118, 97, 114, 32, 120, 32, 103, 111, 123, 108, 111, 99, 107, 32, 120, 125]⟩)), (3, Operand.const (.string ⟨#[118, 97, 114, 32, 120, 32, 103, 111, 123, 115, 101, 110, 100, 32, 120, 32, 49, 125]⟩)), (4, Operand.const (.string ⟨#[99, 104, 97, 110, 32, 99, 32, 48, 32, 103, 111, 123, 114, 101, 99, 118, 32, 99, 32, 99, 125]⟩)), (5, Operand.const (.string ⟨#[99, 104, 97, 110, 32, 99, 32, 48, 32, 103, 111, 123, 115, 101, 110, 100, 32, 99, 32, 99, 125]⟩)), (6, Operand.const (.string ⟨#[103, 111, 123, 112, 114, 105, 110, 116, 32, 121, 125]⟩)), (7, Operand.const (.string ⟨#[103, 111, 123, 105, 102, 32, 121, 123, 125, 125]⟩)), (8, Operand.const (.string ⟨#[118, 97, 114, 32, 120, 32, 103, 111, 123, 105, 102, 32, 120, 123, 114, 101, 112, 101, 97, 116, 32, 50, 123, 117, 110, 108, 111, 99, 107, 32, 120, 125, 125, 125]⟩)), (9, Operand.const (.string ⟨#[103, 111, 123, 108, 111, 99, 107, 32, 109, 125]⟩)), (10, Operand.const (.string ⟨#[109, 117, 116, 101, 120, 32, 109, 32, 103, 111, 123, 114, 101, 99, 118, 32, 109, 32, 109, 125]⟩)), (11, Operand.const (.string ⟨#[118, 97, 114, 32, 120, 32, 103, 111, 123, 120, 61, 120, 43, 121, 125]⟩))] : Array (Nat × Operand)).map fun (i, x) => (i, a.eval x)).toList = some badCells := by kernel_rfl
theorem bad_info : (Try.prog.info? 22).map (·.size) = some badCells.size := by kernel_rfl
theorem bad_one : badCells.all (·.oneCell') = true := by kernel_rfl
theorem bad_sz : (12 : Nat) = badCells.size := by kernel_rfl
theorem at_built (a : Act) : Try.prog.built 23 ((#[(0, Operand.const (.int .i64 6)), (1, Operand.const (.int .i64 11)), (2, Operand.const (.int .i64 9)), (3, Operand.const (.int .i64 9)), (4, Operand.const (.int .i64 12)), (5, Operand.const (.int .i64 12)), (6, Operand.const (.int .i64 3)), (7, Operand.const (.int .i64 3)), (8, Operand.const (.int .i64 23)), (9, Operand.const (.int .i64 3)), (10, Operand.const (.int .i64 11)), (11, Operand.const (.int .i64 9))] : Array (Nat × Operand)).map fun (i, x) => (i, a.eval x)).toList = some atCells := by kernel_rfl
theorem at_info : (Try.prog.info? 23).map (·.size) = some atCells.size := by kernel_rfl
theorem at_one : atCells.all (·.oneCell') = true := by kernel_rfl
theorem at_sz : (12 : Nat) = atCells.size := by kernel_rfl
theorem at_cell (w : World) (m : Nat) (hm : m < 12) : (w.alloc (.cells atCells 23)).cell? ⟨w.heap.size, m, none⟩ = some (.int .i64 ((badAt.getD m 0 : Nat) : Int)) := by
  have h : ∀ m : Nat, m < 12 → atCells[m]? = some (.int .i64 ((badAt.getD m 0 : Nat) : Int)) := by
    intro m hm
    match m, hm with
    | 0, _ => rfl
    | 1, _ => rfl
    | 2, _ => rfl
    | 3, _ => rfl
    | 4, _ => rfl
    | 5, _ => rfl
    | 6, _ => rfl
    | 7, _ => rfl
    | 8, _ => rfl
    | 9, _ => rfl
    | 10, _ => rfl
    | 11, _ => rfl
    | j + 12, h => exact absurd h (by omega)
  rw [cell_of_row _ _ m atCells 23 (0, 0) (heap_alloc_last w _)]
  exact h m hm
theorem bad_index (k : Nat) (hk : k < 12) (w : World) : (Instr.index 22 (.agg badCells) (.int .i64 (k : Int))).run Try.prog w = .ok (.string (badB k)) w := by
  have h9 := Try.sizeOf9
  have ha := Try.isAgg9
  match k, hk with
  | 0, _ => simp [Instr.index, go_sem, h9, ha, badCells, badS, badB]
  | 1, _ => simp [Instr.index, go_sem, h9, ha, badCells, badS, badB]
  | 2, _ => simp [Instr.index, go_sem, h9, ha, badCells, badS, badB]
  | 3, _ => simp [Instr.index, go_sem, h9, ha, badCells, badS, badB]
  | 4, _ => simp [Instr.index, go_sem, h9, ha, badCells, badS, badB]
  | 5, _ => simp [Instr.index, go_sem, h9, ha, badCells, badS, badB]
  | 6, _ => simp [Instr.index, go_sem, h9, ha, badCells, badS, badB]
  | 7, _ => simp [Instr.index, go_sem, h9, ha, badCells, badS, badB]
  | 8, _ => simp [Instr.index, go_sem, h9, ha, badCells, badS, badB]
  | 9, _ => simp [Instr.index, go_sem, h9, ha, badCells, badS, badB]
  | 10, _ => simp [Instr.index, go_sem, h9, ha, badCells, badS, badB]
  | 11, _ => simp [Instr.index, go_sem, h9, ha, badCells, badS, badB]
  | j + 12, h => exact absurd h (by omega)
theorem wpList_store_new {P : Program} {ops : Array Oper} {rest : List Oper} {op : Oper} {a : Act} {w : World} {Q : Exit → Act → World → Prop} (hgd : op.guard = none) (ty : TypeId) (x y : Operand) (ho : op.op = .store ty x y)
    (c c' : Array Value) (hx : a.eval x = .pointer (some ⟨w.heap.size, 0, none⟩)) (hy : a.eval y = .agg c') (hi : (P.info? ty).map (·.size) = some c'.size) (hs : c.size = c'.size) (h1 : c'.all (·.oneCell') = true)
    (h : wpList P ops Q rest (a.put op.dst undef) (w.alloc (.cells c' ty))) : wpList P ops Q (op :: rest) a (w.alloc (.cells c ty)) :=
  wpList_plain hgd fun _ hK => by
    unfold Oper.wp execOp
    simp only [ho, hx, hy, run_storeAt_new w ty c c' hi hs h1, Sem.run_bind, Result.andThen_ok]
    exact hK _ _ h
theorem wpList_build_to {P : Program} {ops : Array Oper} {rest : List Oper} {o : Oper} {a : Act} {w : World} {Q : Exit → Act → World → Prop} (hg : o.guard = none) (t : TypeId) (parts : Array (Nat × Operand)) (ho : o.op = .build t parts)
    (cells : Array Value) (hf : P.built t (parts.map fun (i, x) => (i, a.eval x)).toList = some cells)
    (h : wpList P ops Q rest (a.put o.dst (.agg cells)) w) : wpList P ops Q (o :: rest) a w :=
  wpList_build hg t parts ho (by rw [hf]; rfl) (by rw [hf]; exact h)
theorem bad_range (w : World) (o : Obj) : (((w.alloc (.cells badCells 22))).alloc o).rangeAt w.heap.size 0 badCells.toList := by
  intro j v hv
  rw [Nat.zero_add]
  have h : (w.alloc (.cells badCells 22)).cell? ⟨w.heap.size, j, none⟩ = some v := by
    rw [cell_of_row _ _ j badCells 22 (0, 0) (heap_alloc_last w _)]
    rw [← hv]; simp
  exact ((Kept.refl (w.alloc (.cells badCells 22))).al o).cellS h
theorem ckP : ckOf sP = some none := by kernel_rfl
def dP : List Dc := ((Pp.out sP).1.map (·.1)).getD []
theorem dP_is : (Pp.out sP).1.map (·.1) = some dP := by kernel_rfl
theorem find_z : Nf.find dP 0 ⟨#[122]⟩ = 2 := by kernel_rfl
theorem find_q : Nf.find dP 0 ⟨#[113]⟩ = -1 := by kernel_rfl
theorem find_e : Nf.find dP 0 ⟨#[]⟩ = -1 := by kernel_rfl
theorem ck_dec (s : ByteArray) (r : Option (Nat × Nat)) (h : ckOf s = some r) : ∃ d, (Pp.out s).1.map (·.1) = some d := by
  unfold ckOf at h
  split at h
  · rename_i d t e; exact ⟨d, by rw [e]; rfl⟩
  · cases h
end Go.Proofs.Ytdodpeneehbbkab
