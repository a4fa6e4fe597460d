/- WkB Fr -/
import Derived.Test.YtnfkjmafhaecgaaZWkA
import Derived.Lib.AtoiErrMem
import Derived.Deep.AppendLies
import Derived.WalkMore

namespace Go.Proofs.Ytnfkjmafhaecgaa
open Go.RowKit
theorem rung_of_int (n : Int) (h0 : 0 ≤ n) (h : n < 9007199254740992) : floatOfInt .f64 n = Fp.rung n.toNat := by
  obtain ⟨m, rfl⟩ := Int.eq_ofNat_of_zero_le h0
  rw [Int.toNat_natCast]
  exact Fp.floatOfInt_eq m (by omega)
theorem ret_cplx {a b : Int} {x y : Nat} (ha : a = x) (hb : b = y) (h1 : x < 9007199254740992) (h2 : y < 9007199254740992) :
    Ending.returned (.complex .f64 (floatOfInt .f64 a) (floatOfInt .f64 b)) = .returned (.complex .f64 (Fp.rung x) (Fp.rung y)) := by
  subst ha; subst hb
  rw [rung_of_int _ (by omega) (by omega), rung_of_int _ (by omega) (by omega)]
  rfl
/-- at, brought within 0 to n. -/
def clampAt (a : Int) (n : Nat) : Nat := (min (max a 0) (n : Int)).toNat
theorem clamp_in (k n : Nat) (h : k ≤ n) : clampAt (k : Int) n = k := by unfold clampAt; omega
/-- The place of byte k, as words. -/
def lineW (s : ByteArray) (k : Nat) : Nat := Fp.rung (Sp.spot (s.data.toList.take k)).1
def colW (s : ByteArray) (k : Nat) : Nat := Fp.rung (Sp.spot (s.data.toList.take k)).2
/-- The variable ErrRange holds an error, or nil. -/
def Er (w : World) : Prop := ∃ ev, w.cell? ⟨2, 0, none⟩ = some ev ∧ (ev = .nilIface ∨ ∃ te pe, ev = .iface te pe)
theorem Er.kept {w w' : World} (h : Er w) (k : Kept w w') : Er w' := by
  obtain ⟨ev, h1, h2⟩ := h
  exact ⟨ev, (k.cell (World.block_lt_of_cell? w _ h1)).trans h1, h2⟩
theorem head_byte (d : ByteArray) (h : 0 < d.size) : d.data.toList.head? = some d[0] := by
  have : 0 < d.data.toList.length := by simpa using h
  rw [List.head?_eq_getElem?, List.getElem?_eq_getElem this, Array.getElem_toList]
  rfl
end Go.Proofs.Ytnfkjmafhaecgaa
namespace Go.Proofs.Ytnfkjmafhaecgaa
open Go.RowKit
end Go.Proofs.Ytnfkjmafhaecgaa

namespace Go.Proofs.Ytnfkjmafhaecgaa
open Go.RowKit
/-- A token's cells. -/
def tkCells (s : ByteArray) (t : Lx.Tk) : List Value := [.int .i64 (t.kind : Int), .string ⟨t.text.toArray⟩, .int .i64 (t.n : Int), .complex .f64 (lineW s t.at') (colW s t.at')]
def cellsOf (s : ByteArray) (ts : List Lx.Tk) : List Value := ts.flatMap (tkCells s)
/-- The token that is being made. -/
structure Box (w : World) (B : Nat) (c0 c1 c2 c3 : Value) : Prop where
  b0 : w.cell? ⟨B, 0, none⟩ = some c0
  b1 : w.cell? ⟨B, 1, none⟩ = some c1
  b2 : w.cell? ⟨B, 2, none⟩ = some c2
  b3 : w.cell? ⟨B, 3, none⟩ = some c3
  z0 : w.frozen? ⟨B, 0, none⟩ = false
  z1 : w.frozen? ⟨B, 1, none⟩ = false
  z2 : w.frozen? ⟨B, 2, none⟩ = false
  z3 : w.frozen? ⟨B, 3, none⟩ = false
theorem Box.lt {w : World} {B : Nat} {c0 c1 c2 c3 : Value} (h : Box w B c0 c1 c2 c3) : B < w.heap.size := World.block_lt_of_cell? w _ h.b0
theorem addr_ne {B i j : Nat} (h : i ≠ j) : (⟨B, i, none⟩ : Addr) ≠ ⟨B, j, none⟩ := by intro e; exact h (Addr.mk.inj e).2.1
theorem Box.set0 {w : World} {B : Nat} {c0 c1 c2 c3 : Value} (h : Box w B c0 c1 c2 c3) (v : Value) : Box (w.setCell ⟨B, 0, none⟩ v) B v c1 c2 c3 :=
  ⟨World.cell?_setCell_same w _ _ h.b0, by rw [World.cell?_setCell_other w _ _ _ (addr_ne (by decide))]; exact h.b1, by rw [World.cell?_setCell_other w _ _ _ (addr_ne (by decide))]; exact h.b2, by rw [World.cell?_setCell_other w _ _ _ (addr_ne (by decide))]; exact h.b3,
    by simp [h.z0], by simp [h.z1], by simp [h.z2], by simp [h.z3]⟩
theorem Box.block {w w' : World} {B : Nat} {c0 c1 c2 c3 : Value} (h : Box w B c0 c1 c2 c3) (hb : w'.heap[B]? = w.heap[B]?) : Box w' B c0 c1 c2 c3 := by
  have hc : ∀ i, w'.cell? ⟨B, i, none⟩ = w.cell? ⟨B, i, none⟩ := fun i => World.cell?_of_block (a := ⟨B, i, none⟩) hb
  have hz : ∀ i, w'.frozen? ⟨B, i, none⟩ = w.frozen? ⟨B, i, none⟩ := fun i => World.frozen?_of_block (a := ⟨B, i, none⟩) hb
  exact ⟨(hc 0).trans h.b0, (hc 1).trans h.b1, (hc 2).trans h.b2, (hc 3).trans h.b3, (hz 0).trans h.z0, (hz 1).trans h.z1, (hz 2).trans h.z2, (hz 3).trans h.z3⟩
theorem byte_at (s : ByteArray) (k : Nat) (h : k < s.size) : s.data.toList[k]'(by simpa using h) = s[k] := by rw [Array.getElem_toList]; rfl
theorem ne_byte {c : UInt8} {n : Nat} (hn : n < 256) (h : c ≠ UInt8.ofNat n) : ((c.toNat : Int) == (n : Int)) = false := by
  rw [beq_eq_false_iff_ne]; intro e; apply h; apply UInt8.toNat_inj.1; rw [UInt8.toNat_ofNat', Nat.mod_eq_of_lt hn]; omega
end Go.Proofs.Ytnfkjmafhaecgaa
