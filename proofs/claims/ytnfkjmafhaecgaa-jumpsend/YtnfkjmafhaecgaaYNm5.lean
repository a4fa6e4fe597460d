/- WkB Fr SgA SgB Nm5 -/
import Derived.Test.YtnfkjmafhaecgaaYWkA
import Derived.Lib.AtoiErrMem
import Derived.Deep.AppendLies
import Derived.WalkMore
import Derived.Test.YtnfkjmafhaecgaaYLxA
import Derived.Deep.QuietTactic
import Derived.BigQuiet

namespace Go.Proofs.Ytnfkjmafhaecgaa
open Go.RowKit
theorem rung_of_int (n : Int) (h0 : 0 ≤ n) (h : n < 9007199254740992) : floatOfInt .f64 n = Fp.rung n.toNat := by
  obtain ⟨m, rfl⟩ := Int.eq_ofNat_of_zero_le h0
  rw [Int.toNat_natCast]
  exact Fp.floatOfInt_eq m (by omega)
theorem ret_cplx {a b : Int} {x y : Nat} (ha : a = x) (hb : b = y) (h1 : x < 9007199254740992) (h2 : y < 9007199254740992) :
    Ending.returned (.complex .f64 (floatOfInt .f64 a) (floatOfInt .f64 b)) = .returned (.complex .f64 (Fp.rung x) (Fp.rung y)) := by
  subst ha; subst hb
  rw [rung_of_int _ (by omega) (by omega), rung_of_int _ (by omega) (by omega)]
  rfl
/-- at, brought within 0 to n. -/
def clampAt (a : Int) (n : Nat) : Nat := (min (max a 0) (n : Int)).toNat
theorem clamp_in (k n : Nat) (h : k ≤ n) : clampAt (k : Int) n = k := by unfold clampAt; omega
/-- The place of byte k, as words. -/
def lineW (s : ByteArray) (k : Nat) : Nat := Fp.rung (Sp.spot (s.data.toList.take k)).1
def colW (s : ByteArray) (k : Nat) : Nat := Fp.rung (Sp.spot (s.data.toList.take k)).2
/-- The variable ErrRange holds an error, or nil. -/
def Er (w : World) : Prop := ∃ ev, w.cell? ⟨2, 0, none⟩ = some ev ∧ (ev = .nilIface ∨ ∃ te pe, ev = .iface te pe)
theorem Er.kept {w w' : World} (h : Er w) (k : Kept w w') : Er w' := by
  obtain ⟨ev, h1, h2⟩ := h
  exact ⟨ev, (k.cell (World.block_lt_of_cell? w _ h1)).trans h1, h2⟩
theorem head_byte (d : ByteArray) (h : 0 < d.size) : d.data.toList.head? = some d[0] := by
  have : 0 < d.data.toList.length := by simpa using h
  rw [List.head?_eq_getElem?, List.getElem?_eq_getElem this, Array.getElem_toList]
  rfl
end Go.Proofs.Ytnfkjmafhaecgaa
namespace Go.Proofs.Ytnfkjmafhaecgaa
open Go.RowKit
end Go.Proofs.Ytnfkjmafhaecgaa

namespace Go.Proofs.Ytnfkjmafhaecgaa
open Go.RowKit
/-- A token's cells. -/
def tkCells (s : ByteArray) (t : Lx.Tk) : List Value := [.int .i64 (t.kind : Int), .string ⟨t.text.toArray⟩, .int .i64 (t.n : Int), .complex .f64 (lineW s t.at') (colW s t.at')]
def cellsOf (s : ByteArray) (ts : List Lx.Tk) : List Value := ts.flatMap (tkCells s)
/-- The token that is being made. -/
structure Box (w : World) (B : Nat) (c0 c1 c2 c3 : Value) : Prop where
  b0 : w.cell? ⟨B, 0, none⟩ = some c0
  b1 : w.cell? ⟨B, 1, none⟩ = some c1
  b2 : w.cell? ⟨B, 2, none⟩ = some c2
  b3 : w.cell? ⟨B, 3, none⟩ = some c3
  z0 : w.frozen? ⟨B, 0, none⟩ = false
  z1 : w.frozen? ⟨B, 1, none⟩ = false
  z2 : w.frozen? ⟨B, 2, none⟩ = false
  z3 : w.frozen? ⟨B, 3, none⟩ = false
theorem Box.lt {w : World} {B : Nat} {c0 c1 c2 c3 : Value} (h : Box w B c0 c1 c2 c3) : B < w.heap.size := World.block_lt_of_cell? w _ h.b0
theorem Box.block {w w' : World} {B : Nat} {c0 c1 c2 c3 : Value} (h : Box w B c0 c1 c2 c3) (hb : w'.heap[B]? = w.heap[B]?) : Box w' B c0 c1 c2 c3 := by
  have hc : ∀ i, w'.cell? ⟨B, i, none⟩ = w.cell? ⟨B, i, none⟩ := fun i => World.cell?_of_block (a := ⟨B, i, none⟩) hb
  have hz : ∀ i, w'.frozen? ⟨B, i, none⟩ = w.frozen? ⟨B, i, none⟩ := fun i => World.frozen?_of_block (a := ⟨B, i, none⟩) hb
  exact ⟨(hc 0).trans h.b0, (hc 1).trans h.b1, (hc 2).trans h.b2, (hc 3).trans h.b3, (hz 0).trans h.z0, (hz 1).trans h.z1, (hz 2).trans h.z2, (hz 3).trans h.z3⟩
theorem byte_at (s : ByteArray) (k : Nat) (h : k < s.size) : s.data.toList[k]'(by simpa using h) = s[k] := by rw [Array.getElem_toList]; rfl
theorem ne_byte {c : UInt8} {n : Nat} (hn : n < 256) (h : c ≠ UInt8.ofNat n) : ((c.toNat : Int) == (n : Int)) = false := by
  rw [beq_eq_false_iff_ne]; intro e; apply h; apply UInt8.toNat_inj.1; rw [UInt8.toNat_ofNat', Nat.mod_eq_of_lt hn]; omega
end Go.Proofs.Ytnfkjmafhaecgaa

namespace Go.Proofs.Ytnfkjmafhaecgaa
open Go.RowKit
attribute [local go_sem] run_store_complex
theorem news_at (w : World) (c0 c1 c2 c3 : Value) (t : TypeId) : ∀ j u, [c0, c1, c2, c3][j]? = some u → (w.alloc (.cells #[c0, c1, c2, c3] t)).cell? ((⟨w.heap.size, 0, none⟩ : Addr).add j) = some u := by
  intro j u hj
  match j, hj with
  | 0, hj => simp at hj; subst hj; simp [Addr.add]
  | 1, hj => simp at hj; subst hj; simp [Addr.add]
  | 2, hj => simp at hj; subst hj; simp [Addr.add]
  | 3, hj => simp at hj; subst hj; simp [Addr.add]
  | j + 4, hj => simp at hj
theorem news_of (w : World) (B : Nat) (hB : w.heap.size = B) (c0 c1 c2 c3 : Value) (t : TypeId) : ∀ j u, [c0, c1, c2, c3][j]? = some u → (w.alloc (.cells #[c0, c1, c2, c3] t)).cell? ((⟨B, 0, none⟩ : Addr).add j) = some u := by
  subst hB; exact news_at w c0 c1 c2 c3 t
end Go.Proofs.Ytnfkjmafhaecgaa
namespace Go.Proofs.Ytnfkjmafhaecgaa
open Go.RowKit
section
variable {s : ByteArray} {w0 : World} {R : Lx.Out} {a : Act} {w : World} {m : Nat} {k : Nat} {acc : List Lx.Tk} {f x fst : Nat} {en gd list c0 c1 c2 c3 : Value}
end
end Go.Proofs.Ytnfkjmafhaecgaa
namespace Go.Proofs.Ytnfkjmafhaecgaa
open Go.RowKit
attribute [local go_sem] run_store_complex
end Go.Proofs.Ytnfkjmafhaecgaa
namespace Go.Proofs.Ytnfkjmafhaecgaa
open Go.RowKit
theorem text_of (s : ByteArray) (k e : Nat) (_hk : k ≤ e) (_he : e ≤ s.size) : (s.extract k e) = ⟨((s.data.toList.drop k).take (e - k)).toArray⟩ := by
  apply ByteArray.ext
  apply Array.ext'
  rw [ByteArray.data_extract, Array.toList_extract, List.extract_eq_take_drop]
section
variable {s : ByteArray} {w0 : World} {R : Lx.Out} {w w1 : World} {k e kd n : Nat} {acc : List Lx.Tk} {f x fst : Nat} {list : Value}
theorem own_kept {b : Nat} {t : TypeId} {z : Nat} {v : Value} {c : Nat} {xs : List Value} (h : w.ownsRow b t z v c xs) (hk : Kept w w1) : w1.ownsRow b t z v c xs := by
  obtain ⟨h1, h2⟩ := h
  refine ⟨h1, ?_⟩
  rcases h2 with h2 | ⟨g, cap, cur, a1, a2, a3, a4⟩
  · exact .inl h2
  · refine .inr ⟨g, cap, cur, a1, a2, ?_, a4⟩
    have hg : g < w.heap.size := by
      rcases Nat.lt_or_ge g w.heap.size with hlt | hge
      · exact hlt
      · rw [Array.getElem?_eq_none hge] at a3; cases a3
    rw [hk.block g hg]; exact a3
theorem Box.kept {B : Nat} {c0 c1 c2 c3 : Value} (h : Box w B c0 c1 c2 c3) (hk : Kept w w1) : Box w1 B c0 c1 c2 c3 := h.block (hk.block B h.lt)
theorem span_len (p : UInt8 → Bool) (l : List UInt8) (i : Nat) : (l.drop i).takeWhile p = (l.drop i).take (Lx.span p l i - i) := by
  unfold Lx.span
  rw [show i + ((l.drop i).takeWhile p).length - i = ((l.drop i).takeWhile p).length by omega]
  generalize l.drop i = r
  induction r with
  | nil => rfl
  | cons d r ih =>
    rw [List.takeWhile_cons]
    split
    · rw [List.length_cons, List.take_succ_cons, ← ih]
    · rfl
/-- A word's token. -/
theorem one_word (hk : k < s.size) (hl : Lx.lower s[k] = true) (hke : k ≤ e) (hsp : Lx.span Lx.goes s.data.toList (k + 1) = e + 1) : Lx.one (s.data.toList.drop k) = if e + 1 - k ≤ 12 then some (1, e + 1 - k, 0) else none := by
  have hll : k < s.data.toList.length := by simpa using hk
  rw [Lx.drop_at _ k hll, Lx.one_cons, byte_at s k hk, if_pos hl]
  have : ((s.data.toList.drop (k + 1)).takeWhile Lx.goes).length = e - k := by
    unfold Lx.span at hsp; omega
  rw [this, show 1 + (e - k) = e + 1 - k by omega]
/-- A number's digits. -/
theorem digits_of (hk : k < s.size) (hd : Lx.digit s[k] = true) (hke : k ≤ e) (he : e < s.size) (hsp : Lx.span Lx.digit s.data.toList (k + 1) = e + 1) :
    (s.extract k (e + 1)).data.toList = s[k] :: (s.data.toList.drop (k + 1)).takeWhile Lx.digit ∧ (∀ c ∈ (s.extract k (e + 1)).data.toList, Lx.digit c = true) ∧ (s.extract k (e + 1)).data.toList ≠ [] ∧ (s.extract k (e + 1)).size ≤ s.size := by
  have hll : k < s.data.toList.length := by simpa using hk
  have h1 : (s.extract k (e + 1)).data.toList = s[k] :: (s.data.toList.drop (k + 1)).takeWhile Lx.digit := by
    rw [text_of s k (e + 1) (by omega) (by omega)]
    show (s.data.toList.drop k).take (e + 1 - k) = _
    rw [Lx.drop_at _ k hll, byte_at s k hk, span_len, hsp, show e + 1 - k = (e + 1 - (k + 1)) + 1 by omega, List.take_succ_cons]
  refine ⟨h1, ?_, by rw [h1]; simp, by rw [ByteArray.size_extract]; omega⟩
  rw [h1]
  intro c hc
  rcases List.mem_cons.1 hc with rfl | hc
  · exact hd
  · exact Lx.takeWhile_all _ _ c hc
theorem one_number {o : Option Nat} (hk : k < s.size) (hl : Lx.lower s[k] = false) (hd : Lx.digit s[k] = true) (hke : k ≤ e) (he : e < s.size) (hsp : Lx.span Lx.digit s.data.toList (k + 1) = e + 1) (ho : Lx.num (s.extract k (e + 1)).data.toList = o) :
    Lx.one (s.data.toList.drop k) = o.map fun n => (2, e + 1 - k, n) := by
  have hll : k < s.data.toList.length := by simpa using hk
  rw [(digits_of hk hd hke he hsp).1] at ho
  rw [Lx.drop_at _ k hll, Lx.one_cons, byte_at s k hk, if_neg (by rw [hl]; decide), if_pos hd, ho]
  have : ((s.data.toList.drop (k + 1)).takeWhile Lx.digit).length = e - k := by
    unfold Lx.span at hsp; omega
  rw [this, show 1 + (e - k) = e + 1 - k by omega]
end
end Go.Proofs.Ytnfkjmafhaecgaa

namespace Go.Proofs.Ytnfkjmafhaecgaa
open Go.RowKit
attribute [local go_sem] run_store_complex
end Go.Proofs.Ytnfkjmafhaecgaa
namespace Go.Proofs.Ytnfkjmafhaecgaa
open Go.RowKit
attribute [local go_sem] run_store_complex
end Go.Proofs.Ytnfkjmafhaecgaa
namespace Go.Proofs.Ytnfkjmafhaecgaa
open Go.RowKit
attribute [local go_sem] run_store_complex
theorem digit_not (c : UInt8) (h : Lx.digit c = true) : Lx.blank c = false ∧ c ≠ 35 := by
  have h1 := (Lx.digit_iff c).1 h
  have h2 : ∀ d : UInt8, d.toNat < 48 → c ≠ d := by intro d hd e; subst e; omega
  have a1 := h2 32 (by decide)
  have a2 := h2 9 (by decide)
  have a3 := h2 10 (by decide)
  exact ⟨by simp [Lx.blank, a1, a2, a3], h2 35 (by decide)⟩
end Go.Proofs.Ytnfkjmafhaecgaa
namespace Go.Proofs.Ytnfkjmafhaecgaa
open Go.RowKit
attribute [local go_sem] run_store_complex
end Go.Proofs.Ytnfkjmafhaecgaa
namespace Go.Proofs.Ytnfkjmafhaecgaa
open Go.RowKit
attribute [local go_sem] run_store_complex
end Go.Proofs.Ytnfkjmafhaecgaa

namespace Go.Proofs.Ytnfkjmafhaecgaa
open Go.RowKit
def kws : List (List UInt8) := [[118, 97, 114], [119, 105, 100, 101], [97, 116, 111, 109, 105, 99], [108, 111, 99, 97, 108], [109, 117, 116, 101, 120], [99, 104, 97, 110],
  [103, 111], [108, 111, 99, 107], [117, 110, 108, 111, 99, 107], [115, 101, 110, 100], [114, 101, 99, 118], [112, 114, 105, 110, 116],
  [105, 102], [101, 108, 115, 101], [114, 101, 112, 101, 97, 116], [103, 111, 116, 111], [108, 97, 98, 101, 108]]
/-- Is it a keyword? -/
def kw (s : ByteArray) : Bool := kws.any (s.toList == ·)
end Go.Proofs.Ytnfkjmafhaecgaa
namespace Go.Proofs.Ytnfkjmafhaecgaa
open Go.RowKit
/-- Is it a name? -/
def nm (s : ByteArray) : Bool := Lx.isWord s.data.toList && !kw s
theorem toList_data (s : ByteArray) : s.toList = s.data.toList := by rw [ByteArray.toList_eq]
theorem least (P : Nat → Prop) [DecidablePred P] (N : Nat) (h : ∃ j, j < N ∧ ¬ P j) : ∃ n, n < N ∧ ¬ P n ∧ ∀ j, j < n → P j := by
  induction N with
  | zero => obtain ⟨j, hj, _⟩ := h; omega
  | succ N ih =>
    by_cases h2 : ∃ j, j < N ∧ ¬ P j
    · obtain ⟨n, h3, h4, h5⟩ := ih h2
      exact ⟨n, by omega, h4, h5⟩
    · obtain ⟨j, hj, hp⟩ := h
      have hjN : j = N := by
        apply Classical.byContradiction
        intro hne
        exact h2 ⟨j, by omega, hp⟩
      subst hjN
      refine ⟨j, by omega, hp, fun i hi => ?_⟩
      apply Classical.byContradiction
      intro hni
      exact h2 ⟨i, hi, hni⟩
end Go.Proofs.Ytnfkjmafhaecgaa
