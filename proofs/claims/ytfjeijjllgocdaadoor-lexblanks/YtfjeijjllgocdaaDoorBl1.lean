/- LexBlanks, first part: the two texts that it makes. -/
import Derived.Test.YtfjeijjllgocdaaDoorTextW
import Derived.Test.YtfjeijjllgocdaaDoorBlFacts
namespace Go.Proofs.YtfjeijjllgocdaaDoor
open Go.RowKit

def bp : Array ByteArray := #[⟨#[120]⟩, ⟨#[103, 111]⟩, ⟨#[123]⟩, ⟨#[125]⟩, ⟨#[61]⟩, ⟨#[61, 61]⟩, ⟨#[40]⟩, ⟨#[43]⟩, ⟨#[45]⟩, ⟨#[55]⟩, ⟨#[48]⟩, ⟨#[114, 101, 112, 101, 97, 116]⟩, ⟨#[122, 57]⟩, ⟨#[37]⟩, ⟨#[60]⟩, ⟨#[47]⟩]
def bg : Array ByteArray := #[⟨#[10]⟩, ⟨#[32, 9, 32]⟩, ⟨#[32, 35, 32, 103, 111, 32, 120, 10]⟩, ⟨#[10, 35, 10]⟩, ⟨#[32, 32]⟩]
def bpCells : Array Value := bp.map Value.string

theorem bp_built (a : Act) : Tryd.prog.built 41 ((#[(0, Operand.const (.string ⟨#[120]⟩)), (1, Operand.const (.string ⟨#[103, 111]⟩)), (2, Operand.const (.string ⟨#[123]⟩)), (3, Operand.const (.string ⟨#[125]⟩)), (4, Operand.const (.string ⟨#[61]⟩)), (5, Operand.const (.string ⟨#[61, 61]⟩)), (6, Operand.const (.string ⟨#[40]⟩)), (7, Operand.const (.string ⟨#[43]⟩)), (8, Operand.const (.string ⟨#[45]⟩)), (9, Operand.const (.string ⟨#[55]⟩)), (10, Operand.const (.string ⟨#[48]⟩)), (11, Operand.const (.string ⟨#[114, 101, 112, 101, 97, 116]⟩)), (12, Operand.const (.string ⟨#[122, 57]⟩)), (13, Operand.const (.string ⟨#[37]⟩)), (14, Operand.const (.string ⟨#[60]⟩)), (15, Operand.const (.string ⟨#[47]⟩))] : Array (Nat × Operand)).map fun (i, x) => (i, a.eval x)).toList = some bpCells := by kernel_rfl
theorem bp_info : (Tryd.prog.info? 41).map (·.size) = some bpCells.size := by kernel_rfl
theorem bp_one : bpCells.all (·.oneCell') = true := by kernel_rfl
theorem bp_size : (16 : Nat) = bpCells.size := by kernel_rfl

theorem bp_cell (w : World) (m : Nat) (hm : m < 16) : (w.alloc (.cells bpCells 41)).cell? ⟨w.heap.size, m, none⟩ = some (.string (bp.getD m ⟨#[]⟩)) := by
  have h : bpCells[m]? = some (.string (bp.getD m ⟨#[]⟩)) := by
    have hs : m < bp.size := by rw [show bp.size = 16 by rfl]; exact hm
    simp [bpCells, hs, Array.getD]
  rw [cell_of_row _ _ m bpCells 41 (0, 0) (heap_alloc_last w _)]
  exact h

theorem index_five (m : Nat) (hm : m < 5) (w : World) : (Instr.index 43 (.agg #[.string ⟨#[10]⟩, .string ⟨#[32, 9, 32]⟩, .string ⟨#[32, 35, 32, 103, 111, 32, 120, 10]⟩, .string ⟨#[10, 35, 10]⟩, .string ⟨#[32, 32]⟩]) (.int .i64 (m : Int))).run Tryd.prog w = .ok (.string (bg.getD m ⟨#[]⟩)) w := by
  have h9 := Tryd.sizeOf9
  have ha := Tryd.isAgg9
  match m, hm with
  | 0, _ => simp [Instr.index, go_sem, h9, ha]; rfl
  | 1, _ => simp [Instr.index, go_sem, h9, ha]; rfl
  | 2, _ => simp [Instr.index, go_sem, h9, ha]; rfl
  | 3, _ => simp [Instr.index, go_sem, h9, ha]; rfl
  | 4, _ => simp [Instr.index, go_sem, h9, ha]; rfl

/-- The part, and the gap, of number k. -/
def wf (l : List Int) (k : Nat) : ByteArray := bp.getD (l.getD k 0 % 16).toNat ⟨#[]⟩
def gf (gaps : List Int) (k : Nat) : ByteArray := if k < gaps.length then bg.getD (gaps.getD k 0 % 5).toNat ⟨#[]⟩ else ⟨#[32]⟩
def pairAt (l gaps : List Int) (k : Nat) : List UInt8 × List UInt8 := ((wf l k).data.toList, (gf gaps k).data.toList)
def sAt (l gaps : List Int) (k : Nat) : ByteArray := ⟨(((List.range k).map (pairAt l gaps)).flatMap fun p => p.1 ++ [32]).toArray⟩
def tAt (l gaps : List Int) (k : Nat) : ByteArray := ⟨(((List.range k).map (pairAt l gaps)).flatMap fun p => p.2 ++ p.1 ++ p.2).toArray⟩

theorem sAt_succ (l gaps : List Int) (k : Nat) : sAt l gaps (k + 1) = sAt l gaps k ++ wf l k ++ ⟨#[32]⟩ := by
  apply ByteArray.ext
  apply Array.ext'
  rw [ByteArray.data_append, ByteArray.data_append, Array.toList_append, Array.toList_append]
  simp [sAt, List.range_succ, pairAt]
theorem tAt_succ (l gaps : List Int) (k : Nat) : tAt l gaps (k + 1) = tAt l gaps k ++ gf gaps k ++ wf l k ++ gf gaps k := by
  apply ByteArray.ext
  apply Array.ext'
  rw [ByteArray.data_append, ByteArray.data_append, ByteArray.data_append, Array.toList_append, Array.toList_append, Array.toList_append]
  simp [tAt, List.range_succ, pairAt]

theorem wf_fact (l : List Int) (k : Nat) : (wf l k).data.toList ∈ Lx.bparts ∧ (wf l k).size ≤ 6 := by
  have h : ∀ i : Nat, i < 16 → (bp.getD i ⟨#[]⟩).data.toList ∈ Lx.bparts ∧ (bp.getD i ⟨#[]⟩).size ≤ 6 := by decide
  have h1 := Int.emod_nonneg (l.getD k 0) (by omega : (16 : Int) ≠ 0)
  have h2 := Int.emod_lt_of_pos (l.getD k 0) (by omega : (0 : Int) < 16)
  exact h _ (by omega)
theorem gf_fact (gaps : List Int) (k : Nat) : (gf gaps k).data.toList ∈ Lx.bgaps ∧ (gf gaps k).size ≤ 8 := by
  unfold gf
  split
  · have h : ∀ i : Nat, i < 5 → (bg.getD i ⟨#[]⟩).data.toList ∈ Lx.bgaps ∧ (bg.getD i ⟨#[]⟩).size ≤ 8 := by decide
    have h1 := Int.emod_nonneg (gaps.getD k 0) (by omega : (5 : Int) ≠ 0)
    have h2 := Int.emod_lt_of_pos (gaps.getD k 0) (by omega : (0 : Int) < 5)
    exact h _ (by omega)
  · decide

theorem sAt_size (l gaps : List Int) (k : Nat) : (sAt l gaps k).size ≤ 7 * k := by
  induction k with
  | zero => exact Nat.le_refl _
  | succ k ih =>
    rw [sAt_succ, ByteArray.size_append, ByteArray.size_append]
    have := (wf_fact l k).2
    show _ + _ + 1 ≤ _
    omega
theorem tAt_size (l gaps : List Int) (k : Nat) : (tAt l gaps k).size ≤ 22 * k := by
  induction k with
  | zero => exact Nat.le_refl _
  | succ k ih =>
    rw [tAt_succ, ByteArray.size_append, ByteArray.size_append, ByteArray.size_append]
    have := (wf_fact l k).2
    have := (gf_fact gaps k).2
    omega

/-- The tokens of both texts. -/
theorem blank_toks (l gaps : List Int) (N : Nat) (hN : N ≤ 60) : ∃ ts us, Lx.toks (sAt l gaps N).data.toList = .good ts ∧ Lx.toks (tAt l gaps N).data.toList = .good us ∧ ts.map Lx.Tk.core = us.map Lx.Tk.core ∧ ts.length = N + 1 := by
  have h : ∀ p ∈ (List.range N).map (pairAt l gaps), p.1 ∈ Lx.bparts ∧ p.2 ∈ Lx.bgaps := by
    intro p hp
    obtain ⟨k, _, rfl⟩ := List.mem_map.1 hp
    exact ⟨(wf_fact l k).1, (gf_fact gaps k).1⟩
  have z1 := sAt_size l gaps N
  have z2 := tAt_size l gaps N
  have e1 : (sAt l gaps N).data.toList.length = (sAt l gaps N).size := by simp
  have e2 : (tAt l gaps N).data.toList.length = (tAt l gaps N).size := by simp
  obtain ⟨ts, h1, h2⟩ := Lx.toks_core (sAt l gaps N).data.toList (by omega) _ (Lx.cr_plain ((List.range N).map (pairAt l gaps)) fun p hp => (h p hp).1)
  obtain ⟨us, h3, h4⟩ := Lx.toks_core (tAt l gaps N).data.toList (by omega) _ (Lx.cr_gaps ((List.range N).map (pairAt l gaps)) h)
  refine ⟨ts, us, h1, h3, h2.trans h4.symm, ?_⟩
  have := congrArg List.length h2
  simpa using this

end Go.Proofs.YtfjeijjllgocdaaDoor
