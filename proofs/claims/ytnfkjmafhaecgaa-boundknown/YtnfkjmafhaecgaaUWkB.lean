/- WkB -/
import Derived.Test.YtnfkjmafhaecgaaUWkA
import Derived.Lib.AtoiErrMem

namespace Go.Proofs.Ytnfkjmafhaecgaa
open Go.RowKit
theorem rung_of_int (n : Int) (h0 : 0 ≤ n) (h : n < 9007199254740992) : floatOfInt .f64 n = Fp.rung n.toNat := by
  obtain ⟨m, rfl⟩ := Int.eq_ofNat_of_zero_le h0
  rw [Int.toNat_natCast]
  exact Fp.floatOfInt_eq m (by omega)
theorem ret_cplx {a b : Int} {x y : Nat} (ha : a = x) (hb : b = y) (h1 : x < 9007199254740992) (h2 : y < 9007199254740992) :
    Ending.returned (.complex .f64 (floatOfInt .f64 a) (floatOfInt .f64 b)) = .returned (.complex .f64 (Fp.rung x) (Fp.rung y)) := by
  subst ha; subst hb
  rw [rung_of_int _ (by omega) (by omega), rung_of_int _ (by omega) (by omega)]
  rfl
/-- at, brought within 0 to n. -/
def clampAt (a : Int) (n : Nat) : Nat := (min (max a 0) (n : Int)).toNat
theorem clamp_in (k n : Nat) (h : k ≤ n) : clampAt (k : Int) n = k := by unfold clampAt; omega
/-- The place of byte k, as words. -/
def lineW (s : ByteArray) (k : Nat) : Nat := Fp.rung (Sp.spot (s.data.toList.take k)).1
def colW (s : ByteArray) (k : Nat) : Nat := Fp.rung (Sp.spot (s.data.toList.take k)).2
/-- The variable ErrRange holds an error, or nil. -/
def Er (w : World) : Prop := ∃ ev, w.cell? ⟨2, 0, none⟩ = some ev ∧ (ev = .nilIface ∨ ∃ te pe, ev = .iface te pe)
theorem Er.kept {w w' : World} (h : Er w) (k : Kept w w') : Er w' := by
  obtain ⟨ev, h1, h2⟩ := h
  exact ⟨ev, (k.cell (World.block_lt_of_cell? w _ h1)).trans h1, h2⟩
theorem head_byte (d : ByteArray) (h : 0 < d.size) : d.data.toList.head? = some d[0] := by
  have : 0 < d.data.toList.length := by simpa using h
  rw [List.head?_eq_getElem?, List.getElem?_eq_getElem this, Array.getElem_toList]
  rfl
end Go.Proofs.Ytnfkjmafhaecgaa
namespace Go.Proofs.Ytnfkjmafhaecgaa
open Go.RowKit
end Go.Proofs.Ytnfkjmafhaecgaa
