/- Fr -/
import Derived.Test.YtnfkjmafhaecgaaUWkB
import Derived.Test.YtnfkjmafhaecgaaUWkA
import Derived.Deep.AppendLies
import Derived.WalkMore

namespace Go.Proofs.Ytnfkjmafhaecgaa
open Go.RowKit
/-- A token's cells. -/
def tkCells (s : ByteArray) (t : Lx.Tk) : List Value := [.int .i64 (t.kind : Int), .string ⟨t.text.toArray⟩, .int .i64 (t.n : Int), .complex .f64 (lineW s t.at') (colW s t.at')]
def cellsOf (s : ByteArray) (ts : List Lx.Tk) : List Value := ts.flatMap (tkCells s)
/-- The token that is being made. -/
structure Box (w : World) (B : Nat) (c0 c1 c2 c3 : Value) : Prop where
  b0 : w.cell? ⟨B, 0, none⟩ = some c0
  b1 : w.cell? ⟨B, 1, none⟩ = some c1
  b2 : w.cell? ⟨B, 2, none⟩ = some c2
  b3 : w.cell? ⟨B, 3, none⟩ = some c3
  z0 : w.frozen? ⟨B, 0, none⟩ = false
  z1 : w.frozen? ⟨B, 1, none⟩ = false
  z2 : w.frozen? ⟨B, 2, none⟩ = false
  z3 : w.frozen? ⟨B, 3, none⟩ = false
theorem Box.lt {w : World} {B : Nat} {c0 c1 c2 c3 : Value} (h : Box w B c0 c1 c2 c3) : B < w.heap.size := World.block_lt_of_cell? w _ h.b0
theorem Box.block {w w' : World} {B : Nat} {c0 c1 c2 c3 : Value} (h : Box w B c0 c1 c2 c3) (hb : w'.heap[B]? = w.heap[B]?) : Box w' B c0 c1 c2 c3 := by
  have hc : ∀ i, w'.cell? ⟨B, i, none⟩ = w.cell? ⟨B, i, none⟩ := fun i => World.cell?_of_block (a := ⟨B, i, none⟩) hb
  have hz : ∀ i, w'.frozen? ⟨B, i, none⟩ = w.frozen? ⟨B, i, none⟩ := fun i => World.frozen?_of_block (a := ⟨B, i, none⟩) hb
  exact ⟨(hc 0).trans h.b0, (hc 1).trans h.b1, (hc 2).trans h.b2, (hc 3).trans h.b3, (hz 0).trans h.z0, (hz 1).trans h.z1, (hz 2).trans h.z2, (hz 3).trans h.z3⟩
theorem byte_at (s : ByteArray) (k : Nat) (h : k < s.size) : s.data.toList[k]'(by simpa using h) = s[k] := by rw [Array.getElem_toList]; rfl
theorem ne_byte {c : UInt8} {n : Nat} (hn : n < 256) (h : c ≠ UInt8.ofNat n) : ((c.toNat : Int) == (n : Int)) = false := by
  rw [beq_eq_false_iff_ne]; intro e; apply h; apply UInt8.toNat_inj.1; rw [UInt8.toNat_ofNat', Nat.mod_eq_of_lt hn]; omega
end Go.Proofs.Ytnfkjmafhaecgaa
