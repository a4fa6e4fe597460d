/- ParseKnown's closed texts, and what they are read as. -/
import Derived.Test.YteaopephdjoegaaDoorDe5
import Derived.WalkKit
import Derived.Laws.Tables
import Derived.Deep.WholeRow
namespace Go.Proofs.YteaopephdjoegaaDoor
open Go.RowKit

def sLo : ByteArray := ⟨(([99, 104, 97, 110, 32, 99, 32, 51, 10, 108, 111, 99, 97, 108, 32, 116, 32, 35, 32, 104, 101, 114, 101, 10, 103, 111, 32, 123, 32, 108, 111, 99, 107, 32, 109, 32, 117, 110].append [108, 111, 99, 107, 32, 109, 32, 115, 101, 110, 100, 32, 99, 32, 49, 32, 43, 32, 116, 32, 114, 101, 99, 118, 32, 99, 32, 116, 32, 112, 114, 105, 110, 116, 32, 45, 116, 32, 105]).append ([102, 32, 116, 32, 123, 32, 125, 32, 101, 108, 115, 101, 32, 123, 32, 103, 111, 116, 111, 32, 97, 32, 125, 32, 114, 101, 112, 101, 97, 116, 32, 57, 32, 123, 32, 108, 97, 98].append [101, 108, 32, 97, 32, 125, 32, 125, 10, 103, 111, 32, 123, 32, 105, 102, 32, 116, 32, 123, 32, 120, 32, 61, 32, 49, 32, 125, 32, 101, 108, 115, 101, 32, 123, 32, 125, 32, 125])).toArray⟩
def sHi : ByteArray := ⟨([103, 111, 123, 114, 101, 112, 101, 97, 116, 32, 48, 123, 114, 101, 112, 101, 97, 116, 32, 49, 123, 114, 101, 112, 101, 97, 116, 32, 49, 123, 114, 101, 112, 101, 97, 116, 32].append [49, 123, 114, 101, 112, 101, 97, 116, 32, 49, 123, 114, 101, 112, 101, 97, 116, 32, 49, 123, 114, 101, 112, 101, 97, 116, 32, 49, 123, 125, 125, 125, 125, 125, 125, 125, 125]).toArray⟩
def dLo : List Dc := [⟨6, (Px.ba [99]), 3, 4607182418800017408, 4607182418800017408⟩, ⟨4, (Px.ba [116]), 0, 4611686018427387904, 4607182418800017408⟩]
def tLo : List (List St) := [[(.mk 2 (Px.ba [109]) (Px.ba []) 0 (.mk 0 0 (Px.ba []) []) [] [] 4613937818241073152 4618441417868443648), (.mk 3 (Px.ba [109]) (Px.ba []) 0 (.mk 0 0 (Px.ba []) []) [] [] 4613937818241073152 4623507967449235456), (.mk 4 (Px.ba [99]) (Px.ba []) 0 (.mk 4 0 (Px.ba []) [(.mk 1 1 (Px.ba []) []), (.mk 2 0 (Px.ba [116]) [])]) [] [] 4613937818241073152 4626885667169763328), (.mk 5 (Px.ba [99]) (Px.ba [116]) 0 (.mk 0 0 (Px.ba []) []) [] [] 4613937818241073152 4630122629401935872), (.mk 6 (Px.ba []) (Px.ba []) 0 (.mk 3 0 (Px.ba []) [(.mk 2 0 (Px.ba [116]) [])]) [] [] 4613937818241073152 4631389266797133824), (.mk 7 (Px.ba []) (Px.ba []) 0 (.mk 2 0 (Px.ba [116]) []) [] [(.mk 9 (Px.ba [97]) (Px.ba []) 0 (.mk 0 0 (Px.ba []) []) [] [] 4613937818241073152 4634555860285128704)] 4613937818241073152 4632655904192331776), (.mk 8 (Px.ba []) (Px.ba []) 9 (.mk 0 0 (Px.ba []) []) [(.mk 10 (Px.ba [97]) (Px.ba []) 0 (.mk 0 0 (Px.ba []) []) [] [] 4613937818241073152 4635963235168681984)] [] 4613937818241073152 4635189178982727680)], [(.mk 7 (Px.ba []) (Px.ba []) 0 (.mk 2 0 (Px.ba [116]) []) [(.mk 1 (Px.ba [120]) (Px.ba []) 0 (.mk 1 1 (Px.ba []) []) [] [] 4616189618054758400 4623507967449235456)] [] 4616189618054758400 4618441417868443648)]]
set_option maxRecDepth 100000 in
theorem outLo : Pp.out sLo = (some (dLo, tLo), 154) := by kernel_rfl
theorem some_of {s : ByteArray} (h : (Pp.out s).1.isSome = true) : ∃ d t q, Pp.out s = (some (d, t), q) := by
  obtain ⟨⟨d, t⟩, hd⟩ := Option.isSome_iff_exists.1 h
  exact ⟨d, t, (Pp.out s).2, by rw [← hd]⟩
theorem outHi : (Pp.out sHi).1.isSome = true := by kernel_rfl
/-- The declarations before. -/
def manyL (k : Nat) : List UInt8 := (List.replicate k [118, 97, 114, 32, 120, 10]).flatten
theorem manyL_succ (k : Nat) : manyL (k + 1) = manyL k ++ [118, 97, 114, 32, 120, 10] := by unfold manyL; rw [List.replicate_succ', List.flatten_append]; simp
theorem manyL_len (k : Nat) : (manyL k).length = 6 * k := by
  induction k with
  | zero => rfl
  | succ k ih => rw [manyL_succ, List.length_append, ih]; simp; omega
theorem outF : (Pp.out ⟨(manyL 24 ++ [103, 111, 123, 125]).toArray⟩).1.isSome = true := by kernel_rfl
theorem outG : Pp.out ⟨(manyL 24 ++ [118, 97, 114, 32, 121, 32, 103, 111, 123, 125]).toArray⟩ = (none, 144) := by kernel_rfl
theorem lineG : lineW ⟨(manyL 24 ++ [118, 97, 114, 32, 121, 32, 103, 111, 123, 125]).toArray⟩ 144 = 4627730092099895296 := by kernel_rfl
theorem colG : colW ⟨(manyL 24 ++ [118, 97, 114, 32, 121, 32, 103, 111, 123, 125]).toArray⟩ 144 = 4607182418800017408 := by kernel_rfl
def badS : List (List UInt8) := [[], [118, 97, 114], [118, 97, 114, 32, 103, 111], [99, 104, 97, 110, 32, 99], [99, 104, 97, 110, 32, 99, 32, 52, 32, 103, 111, 123, 125], [103, 111], [103, 111, 123], [103, 111, 123, 125, 125], [103, 111, 123, 125, 118, 97, 114, 32, 120], [103, 111, 123, 101, 108, 115, 101, 123, 125, 125], [103, 111, 123, 120, 32, 49, 125], [103, 111, 123, 120, 61, 125], [103, 111, 123, 114, 101, 112, 101, 97, 116, 32, 49, 48, 32, 123, 125, 125], [103, 111, 123, 115, 101, 110, 100, 32, 49, 125], [103, 111, 123, 105, 102, 123, 125, 125], [103, 111, 123, 125, 103, 111, 123, 125, 103, 111, 123, 125, 103, 111, 123, 125, 103, 111, 123, 125], [103, 111, 123, 114, 101, 112, 101, 97, 116, 32, 49, 123, 114, 101, 112, 101, 97, 116, 32, 49, 123, 114, 101, 112, 101, 97, 116, 32, 49, 123, 114, 101, 112, 101, 97, 116, 32, 49, 123, 114, 101, 112, 101, 97, 116, 32, 49, 123, 114, 101, 112, 101, 97, 116, 32, 49, 123, 114, 101, 112, 101, 97, 116, 32, 49, 123, 114, 101, 112, 101, 97, 116, 32, 49, 123, 125, 125, 125, 125, 125, 125, 125, 125, 125], [103, 111, 123, 126, 125]]
def badAt : List Nat := [0, 3, 4, 6, 7, 2, 3, 4, 4, 3, 5, 5, 10, 8, 5, 16, 74, 3]
def badB (k : Nat) : ByteArray := ⟨(badS.getD k []).toArray⟩
def badCells : Array Value := (badS.map fun s => Value.string ⟨s.toArray⟩).toArray
def atCells : Array Value := (badAt.map fun (n : Nat) => Value.int .i64 (n : Int)).toArray
theorem bo0 : Pp.out (badB 0) = (none, badAt.getD 0 0) := by kernel_rfl
theorem bo1 : Pp.out (badB 1) = (none, badAt.getD 1 0) := by kernel_rfl
theorem bo2 : Pp.out (badB 2) = (none, badAt.getD 2 0) := by kernel_rfl
theorem bo3 : Pp.out (badB 3) = (none, badAt.getD 3 0) := by kernel_rfl
theorem bo4 : Pp.out (badB 4) = (none, badAt.getD 4 0) := by kernel_rfl
theorem bo5 : Pp.out (badB 5) = (none, badAt.getD 5 0) := by kernel_rfl
theorem bo6 : Pp.out (badB 6) = (none, badAt.getD 6 0) := by kernel_rfl
theorem bo7 : Pp.out (badB 7) = (none, badAt.getD 7 0) := by kernel_rfl
theorem bo8 : Pp.out (badB 8) = (none, badAt.getD 8 0) := by kernel_rfl
theorem bo9 : Pp.out (badB 9) = (none, badAt.getD 9 0) := by kernel_rfl
theorem bo10 : Pp.out (badB 10) = (none, badAt.getD 10 0) := by kernel_rfl
theorem bo11 : Pp.out (badB 11) = (none, badAt.getD 11 0) := by kernel_rfl
theorem bo12 : Pp.out (badB 12) = (none, badAt.getD 12 0) := by kernel_rfl
theorem bo13 : Pp.out (badB 13) = (none, badAt.getD 13 0) := by kernel_rfl
theorem bo14 : Pp.out (badB 14) = (none, badAt.getD 14 0) := by kernel_rfl
theorem bo15 : Pp.out (badB 15) = (none, badAt.getD 15 0) := by kernel_rfl
theorem bo16 : Pp.out (badB 16) = (none, badAt.getD 16 0) := by kernel_rfl
theorem bo17 : Pp.out (badB 17) = (none, badAt.getD 17 0) := by kernel_rfl
theorem bad_out (k : Nat) (hk : k < 18) : Pp.out (badB k) = (none, badAt.getD k 0) := by
  match k, hk with
  | 0, _ => exact bo0
  | 1, _ => exact bo1
  | 2, _ => exact bo2
  | 3, _ => exact bo3
  | 4, _ => exact bo4
  | 5, _ => exact bo5
  | 6, _ => exact bo6
  | 7, _ => exact bo7
  | 8, _ => exact bo8
  | 9, _ => exact bo9
  | 10, _ => exact bo10
  | 11, _ => exact bo11
  | 12, _ => exact bo12
  | 13, _ => exact bo13
  | 14, _ => exact bo14
  | 15, _ => exact bo15
  | 16, _ => exact bo16
  | 17, _ => exact bo17
  | j + 18, h => exact absurd h (by omega)
theorem bad_size (k : Nat) (hk : k < 18) : (badB k).size ≤ 100 ∧ badAt.getD k 0 ≤ (badB k).size := by
  have h : ∀ k : Nat, k < 18 → (badB k).size ≤ 100 ∧ badAt.getD k 0 ≤ (badB k).size := by decide +kernel
  exact h k hk
theorem bad_built (a : Act) : Tryd.prog.built 32 ((#[(0, Operand.const (.string ⟨#[]⟩)), (1, Operand.const (.string ⟨#[118, 97, 114]⟩)), (2, Operand.const (.string ⟨#[118, 97, 114, 32, 103, 111]⟩)), (3, Operand.const (.string ⟨#[99, 104, 97, 110, 32, 99]⟩)), (4, Operand.const (.string ⟨#[99, 104, 97, 110, 32, 99, 32, 52, 32, 103, 111, 123, 125]⟩)), (5, Operand.const (.string ⟨#[103, 111]⟩)), (6, Operand.const (.string ⟨#[103, 111, 123]⟩)), (7, Operand.const (.string ⟨#[103, 111, 123, 125, 125]⟩)), (8, Operand.const (.string ⟨#[103, 111, 123, 125, 118, 97, 114, 32, 120]⟩)), (9, Operand.const (.string ⟨#[103, 111, 123, 101, 108, 115, 101, 123, 125, 125]⟩)), (10, Operand.const (.string ⟨#[103, 111, 123, 120, 32, 49, 125]⟩)), (11, Operand.const (.string ⟨#[103, 111, 123, 120, 61, 125]⟩)), (12, Operand.const (.string ⟨#[103, 111, 123, 114, 101, 112, 101, 97, 116, 32, 49, 48, 32, 123, 125, 125]⟩)), (13, Operand.const (.string ⟨#[103, 111, 123, 115, 101, 110, 100, 32, 49, 125]⟩)), (14, Operand.const (.string ⟨#[103, 111, 123, 105, 102, 123, 125, 125]⟩)), (15, Operand.const (.string ⟨#[103, 111, 123, 125, 103, 111, 123, 125, 103, 111, 123, 125, 103, 111, 123, 125, 103, 111, 123, 125]⟩)), (16, Operand.const (.string ⟨([103, 111, 123, 114, 101, 112, 101, 97, 116, 32, 49, 123, 114, 101, 112, 101, 97, 116, 32, 49, 123, 114, 101, 112, 101, 97, 116, 32, 49, 123, 114, 101, 112, 101, 97, 116, 32, 49, 123, 114, 101, 112].append [101, 97, 116, 32, 49, 123, 114, 101, 112, 101, 97, 116, 32, 49, 123, 114, 101, 112, 101, 97, 116, 32, 49, 123, 114, 101, 112, 101, 97, 116, 32, 49, 123, 125, 125, 125, 125, 125, 125, 125, 125, 125]).toArray⟩)), (17, Operand.const (.string ⟨#[103, 111, 123, 126, 125]⟩))] : Array (Nat × Operand)).map fun (i, x) => (i, a.eval x)).toList = some badCells := by kernel_rfl
theorem bad_info : (Tryd.prog.info? 32).map (·.size) = some badCells.size := by kernel_rfl
theorem bad_one : badCells.all (·.oneCell') = true := by kernel_rfl
theorem bad_sz : (18 : Nat) = badCells.size := by kernel_rfl
theorem at_built (a : Act) : Tryd.prog.built 33 ((#[(0, Operand.const (.int .i64 0)), (1, Operand.const (.int .i64 3)), (2, Operand.const (.int .i64 4)), (3, Operand.const (.int .i64 6)), (4, Operand.const (.int .i64 7)), (5, Operand.const (.int .i64 2)), (6, Operand.const (.int .i64 3)), (7, Operand.const (.int .i64 4)), (8, Operand.const (.int .i64 4)), (9, Operand.const (.int .i64 3)), (10, Operand.const (.int .i64 5)), (11, Operand.const (.int .i64 5)), (12, Operand.const (.int .i64 10)), (13, Operand.const (.int .i64 8)), (14, Operand.const (.int .i64 5)), (15, Operand.const (.int .i64 16)), (16, Operand.const (.int .i64 74)), (17, Operand.const (.int .i64 3))] : Array (Nat × Operand)).map fun (i, x) => (i, a.eval x)).toList = some atCells := by kernel_rfl
theorem at_info : (Tryd.prog.info? 33).map (·.size) = some atCells.size := by kernel_rfl
theorem at_one : atCells.all (·.oneCell') = true := by kernel_rfl
theorem at_sz : (18 : Nat) = atCells.size := by kernel_rfl
theorem at_cell (w : World) (m : Nat) (hm : m < 18) : (w.alloc (.cells atCells 33)).cell? ⟨w.heap.size, m, none⟩ = some (.int .i64 ((badAt.getD m 0 : Nat) : Int)) := by
  have h : ∀ m : Nat, m < 18 → atCells[m]? = some (.int .i64 ((badAt.getD m 0 : Nat) : Int)) := by
    intro m hm
    match m, hm with
    | 0, _ => rfl
    | 1, _ => rfl
    | 2, _ => rfl
    | 3, _ => rfl
    | 4, _ => rfl
    | 5, _ => rfl
    | 6, _ => rfl
    | 7, _ => rfl
    | 8, _ => rfl
    | 9, _ => rfl
    | 10, _ => rfl
    | 11, _ => rfl
    | 12, _ => rfl
    | 13, _ => rfl
    | 14, _ => rfl
    | 15, _ => rfl
    | 16, _ => rfl
    | 17, _ => rfl
    | j + 18, h => exact absurd h (by omega)
  rw [cell_of_row _ _ m atCells 33 (0, 0) (heap_alloc_last w _)]
  exact h m hm
theorem bad_index (k : Nat) (hk : k < 18) (w : World) : (Instr.index 32 (.agg badCells) (.int .i64 (k : Int))).run Tryd.prog w = .ok (.string (badB k)) w := by
  have h9 := Tryd.sizeOf9
  have ha := Tryd.isAgg9
  match k, hk with
  | 0, _ => simp [Instr.index, go_sem, h9, ha, badCells, badS, badB]
  | 1, _ => simp [Instr.index, go_sem, h9, ha, badCells, badS, badB]
  | 2, _ => simp [Instr.index, go_sem, h9, ha, badCells, badS, badB]
  | 3, _ => simp [Instr.index, go_sem, h9, ha, badCells, badS, badB]
  | 4, _ => simp [Instr.index, go_sem, h9, ha, badCells, badS, badB]
  | 5, _ => simp [Instr.index, go_sem, h9, ha, badCells, badS, badB]
  | 6, _ => simp [Instr.index, go_sem, h9, ha, badCells, badS, badB]
  | 7, _ => simp [Instr.index, go_sem, h9, ha, badCells, badS, badB]
  | 8, _ => simp [Instr.index, go_sem, h9, ha, badCells, badS, badB]
  | 9, _ => simp [Instr.index, go_sem, h9, ha, badCells, badS, badB]
  | 10, _ => simp [Instr.index, go_sem, h9, ha, badCells, badS, badB]
  | 11, _ => simp [Instr.index, go_sem, h9, ha, badCells, badS, badB]
  | 12, _ => simp [Instr.index, go_sem, h9, ha, badCells, badS, badB]
  | 13, _ => simp [Instr.index, go_sem, h9, ha, badCells, badS, badB]
  | 14, _ => simp [Instr.index, go_sem, h9, ha, badCells, badS, badB]
  | 15, _ => simp [Instr.index, go_sem, h9, ha, badCells, badS, badB]
  | 16, _ => simp [Instr.index, go_sem, h9, ha, badCells, badS, badB]
  | 17, _ => simp [Instr.index, go_sem, h9, ha, badCells, badS, badB]
  | j + 18, h => exact absurd h (by omega)
theorem wpList_store_new {P : Program} {ops : Array Oper} {rest : List Oper} {op : Oper} {a : Act} {w : World} {Q : Exit → Act → World → Prop} (hgd : op.guard = none) (ty : TypeId) (x y : Operand) (ho : op.op = .store ty x y)
    (c c' : Array Value) (hx : a.eval x = .pointer (some ⟨w.heap.size, 0, none⟩)) (hy : a.eval y = .agg c') (hi : (P.info? ty).map (·.size) = some c'.size) (hs : c.size = c'.size) (h1 : c'.all (·.oneCell') = true)
    (h : wpList P ops Q rest (a.put op.dst undef) (w.alloc (.cells c' ty))) : wpList P ops Q (op :: rest) a (w.alloc (.cells c ty)) :=
  wpList_plain hgd fun _ hK => by
    unfold Oper.wp execOp
    simp only [ho, hx, hy, run_storeAt_new w ty c c' hi hs h1, Sem.run_bind, Result.andThen_ok]
    exact hK _ _ h

theorem wpList_build_to {P : Program} {ops : Array Oper} {rest : List Oper} {o : Oper} {a : Act} {w : World} {Q : Exit → Act → World → Prop} (hg : o.guard = none) (t : TypeId) (parts : Array (Nat × Operand)) (ho : o.op = .build t parts)
    (cells : Array Value) (hf : P.built t (parts.map fun (i, x) => (i, a.eval x)).toList = some cells)
    (h : wpList P ops Q rest (a.put o.dst (.agg cells)) w) : wpList P ops Q (o :: rest) a w :=
  wpList_build hg t parts ho (by rw [hf]; rfl) (by rw [hf]; exact h)

#print axioms bad_index
#print axioms outG
end Go.Proofs.YteaopephdjoegaaDoor
