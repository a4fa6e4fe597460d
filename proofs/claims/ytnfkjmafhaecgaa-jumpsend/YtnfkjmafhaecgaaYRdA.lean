/- RdA -/
import Derived.Test.YtnfkjmafhaecgaaYNm5
import Derived.Test.YtnfkjmafhaecgaaYPlA
import Derived.Deep.RegionHeld3
import Derived.Laws.EntriesVeiled
import Derived.Test.YtnfkjmafhaecgaaYKpA
import Derived.Laws.ResultCell

namespace Go.Proofs.Ytnfkjmafhaecgaa
open Go.RowKit
attribute [local go_sem] run_store_complex
theorem ne_int {k c : Int} (h : k ≠ c) : (k == c) = false := by rw [beq_eq_false_iff_ne]; exact h
/-! ### The reader in memory -/
/-- w' is w grown, and turned in block R alone. -/
structure But (R : Nat) (w w' : World) : Prop where
  os : w'.os = w.os
  tape : w'.tape = w.tape
  output : w'.output = w.output
  size : w.heap.size ≤ w'.heap.size
  block : ∀ k, k < w.heap.size → k ≠ R → w'.heap[k]? = w.heap[k]?
theorem But.of {R : Nat} {w w' : World} (h : Kept w w') : But R w w' := ⟨h.os, h.tape, h.output, h.size, fun k hk _ => h.block k hk⟩
theorem But.refl (R : Nat) (w : World) : But R w w := But.of (Kept.refl w)
theorem But.then {R : Nat} {a b c : World} (h : But R a b) (k : But R b c) : But R a c :=
  ⟨k.os.trans h.os, k.tape.trans h.tape, k.output.trans h.output, Nat.le_trans h.size k.size, fun i hi hn => (k.block i (Nat.lt_of_lt_of_le hi h.size) hn).trans (h.block i hi hn)⟩
theorem But.al {R : Nat} {a w : World} (h : But R a w) (o : Obj) : But R a (w.alloc o) := h.then (But.of ((Kept.refl _).al o))
theorem But.dr {R : Nat} {a w : World} (h : But R a w) : But R a w.drew := h.then (But.of (Kept.refl _).dr)
theorem But.set {R : Nat} {a w : World} (h : But R a w) (o : Nat) (v : Value) : But R a (w.setCell ⟨R, o, none⟩ v) := by
  have hB : Below 0 w (w.setCell ⟨R, o, none⟩ v) := (Below.refl 0 w).setCell (Nat.zero_le _) v
  exact ⟨hB.os.trans h.os, hB.tape.trans h.tape, hB.output.trans h.output, Nat.le_trans h.size hB.size, fun i hi hn => (Below.heap_setCell w _ v i (fun e => hn e)).trans (h.block i hi hn)⟩
theorem But.cell {R : Nat} {w w' : World} (h : But R w w') {b o : Nat} {v : Value} (hc : w.cell? ⟨b, o, none⟩ = some v) (hn : b ≠ R) : w'.cell? ⟨b, o, none⟩ = some v := by
  rw [World.cell?_of_block (w := w) (a := ⟨b, o, none⟩) (h.block b (block_lt_of_cell hc) hn)]; exact hc
theorem But.kept {R : Nat} {w w' a : World} (h : But R w w') (k : Kept a w) (hR : a.heap.size ≤ R) : Kept a w' :=
  ⟨h.os.trans k.os, h.tape.trans k.tape, h.output.trans k.output, Nat.le_trans k.size h.size, fun i hi => (h.block i (Nat.lt_of_lt_of_le hi k.size) (by omega)).trans (k.block i hi)⟩
/-- A list of tokens, cell by cell. -/
structure Row (s : ByteArray) (ts : List Lx.Tk) (g : Nat) (w : World) : Prop where
  cells : ∀ j, j < ts.length * 4 → w.cell? ⟨g, j, none⟩ = (cellsOf s ts)[j]?
theorem tk_at (s : ByteArray) (ts : List Lx.Tk) (i j : Nat) (hi : i < ts.length) (hj : j < 4) : (cellsOf s ts)[i * 4 + j]? = (tkCells s ts[i])[j]? := by
  induction ts generalizing i with
  | nil => simp at hi
  | cons t r ih =>
    have e : cellsOf s (t :: r) = tkCells s t ++ cellsOf s r := rfl
    rw [e]
    have hl : (tkCells s t).length = 4 := rfl
    cases i with
    | zero => rw [List.getElem?_append_left (by omega)]; simp
    | succ i =>
      rw [List.getElem?_append_right (by omega), hl, show (i + 1) * 4 + j - 4 = i * 4 + j by omega]
      exact ih i (by simpa using hi)
/-- The four cells of token i. -/
theorem Row.at {s : ByteArray} {ts : List Lx.Tk} {g : Nat} {w : World} (h : Row s ts g w) (i : Nat) (hi : i < ts.length) :
    w.cell? ⟨g, i * 4, none⟩ = some (.int .i64 (ts[i].kind : Int)) ∧ w.cell? ⟨g, i * 4 + 1, none⟩ = some (.string ⟨ts[i].text.toArray⟩) ∧ w.cell? ⟨g, i * 4 + 2, none⟩ = some (.int .i64 (ts[i].n : Int)) ∧ w.cell? ⟨g, i * 4 + 3, none⟩ = some (.complex .f64 (lineW s ts[i].at') (colW s ts[i].at')) := by
  refine ⟨?_, ?_, ?_, ?_⟩
  · have := tk_at s ts i 0 hi (by decide); rw [h.cells (i * 4) (by omega)]; exact this
  · have := tk_at s ts i 1 hi (by decide); rw [h.cells (i * 4 + 1) (by omega)]; exact this
  · have := tk_at s ts i 2 hi (by decide); rw [h.cells (i * 4 + 2) (by omega)]; exact this
  · have := tk_at s ts i 3 hi (by decide); rw [h.cells (i * 4 + 3) (by omega)]; exact this
/-- The reader: its tokens, where it is, how deep. -/
structure Rd (w : World) (R g cap : Nat) (s : ByteArray) (ts : List Lx.Tk) (a d : Nat) : Prop where
  c0 : w.cell? ⟨R, 0, none⟩ = some (.slice (some ⟨g, 0, none⟩) ts.length cap)
  c1 : w.cell? ⟨R, 1, none⟩ = some (.int .i64 (a : Int))
  c2 : w.cell? ⟨R, 2, none⟩ = some (.int .i64 (d : Int))
  z1 : w.frozen? ⟨R, 1, none⟩ = false
  z2 : w.frozen? ⟨R, 2, none⟩ = false
  row : Row s ts g w
  ne : g ≠ R
  lt : g < w.heap.size
  few : ts.length ≤ 6001
  le : a ≤ ts.length
  sh : d ≤ 8
theorem Rd.rlt {w : World} {R g cap : Nat} {s : ByteArray} {ts : List Lx.Tk} {a d : Nat} (h : Rd w R g cap s ts a d) : R < w.heap.size := block_lt_of_cell h.c0
theorem Rd.kept {w w' : World} {R g cap : Nat} {s : ByteArray} {ts : List Lx.Tk} {a d : Nat} (h : Rd w R g cap s ts a d) (k : Kept w w') : Rd w' R g cap s ts a d :=
  ⟨k.cellS h.c0, k.cellS h.c1, k.cellS h.c2, (k.frozen (p := ⟨R, 1, none⟩) h.rlt).trans h.z1, (k.frozen (p := ⟨R, 2, none⟩) h.rlt).trans h.z2, ⟨fun j hj => (k.cell (p := ⟨g, j, none⟩) h.lt).trans (h.row.cells j hj)⟩, h.ne, Nat.lt_of_lt_of_le h.lt k.size, h.few, h.le, h.sh⟩
theorem setCell_size (w : World) (a : Addr) (v : Value) : (w.setCell a v).heap.size = w.heap.size := by simp
theorem addr_ne' {B i j : Nat} (h : i ≠ j) : (⟨B, i, none⟩ : Addr) ≠ ⟨B, j, none⟩ := by intro e; exact h (Addr.mk.inj e).2.1
theorem addr_nb {B C i j : Nat} (h : B ≠ C) : (⟨B, i, none⟩ : Addr) ≠ ⟨C, j, none⟩ := by intro e; exact h (Addr.mk.inj e).1
/-- Stepped on. -/
theorem Rd.at' {w : World} {R g cap : Nat} {s : ByteArray} {ts : List Lx.Tk} {a d : Nat} (h : Rd w R g cap s ts a d) (b : Nat) (hb : b ≤ ts.length) : Rd (w.setCell ⟨R, 1, none⟩ (.int .i64 (b : Int))) R g cap s ts b d :=
  ⟨by rw [World.cell?_setCell_other w _ _ _ (addr_ne' (by decide))]; exact h.c0, World.cell?_setCell_same w _ _ h.c1, by rw [World.cell?_setCell_other w _ _ _ (addr_ne' (by decide))]; exact h.c2, by simp [h.z1], by simp [h.z2],
   ⟨fun j hj => by rw [World.cell?_setCell_other w _ _ _ (addr_nb (Ne.symm h.ne))]; exact h.row.cells j hj⟩, h.ne, by rw [setCell_size]; exact h.lt, h.few, hb, h.sh⟩
/-- Deeper. -/
theorem Rd.deep {w : World} {R g cap : Nat} {s : ByteArray} {ts : List Lx.Tk} {a d : Nat} (h : Rd w R g cap s ts a d) (b : Nat) (hb : b ≤ 8) : Rd (w.setCell ⟨R, 2, none⟩ (.int .i64 (b : Int))) R g cap s ts a b :=
  ⟨by rw [World.cell?_setCell_other w _ _ _ (addr_ne' (by decide))]; exact h.c0, by rw [World.cell?_setCell_other w _ _ _ (addr_ne' (by decide))]; exact h.c1, World.cell?_setCell_same w _ _ h.c2, by simp [h.z1], by simp [h.z2],
   ⟨fun j hj => by rw [World.cell?_setCell_other w _ _ _ (addr_nb (Ne.symm h.ne))]; exact h.row.cells j hj⟩, h.ne, by rw [setCell_size]; exact h.lt, h.few, h.le, hb⟩
/-- What is left of the tokens. -/
abbrev left (ts : List Lx.Tk) (a : Nat) : List Lx.Core := (ts.map Lx.Tk.core).drop a
theorem hd_in (ts : List Lx.Tk) (a : Nat) (h : a < ts.length) : Px.hd (left ts a) = (ts[a].kind, ts[a].text, ts[a].n) := by
  unfold left Px.hd
  rw [List.drop_eq_getElem_cons (by simpa using h)]
  simp [Lx.Tk.core]
theorem left_tail (ts : List Lx.Tk) (a : Nat) : (left ts a).tail = left ts (a + 1) := by
  unfold left; rw [List.tail_drop]
theorem left_len (ts : List Lx.Tk) (a : Nat) : (left ts a).length = ts.length - a := by simp [left]
theorem eq_text (tx : List UInt8) (x : ByteArray) : ((⟨tx.toArray⟩ : ByteArray).toList == x.toList) = (tx == x.data.toList) := by
  rw [toList_data, toList_data]
end Go.Proofs.Ytnfkjmafhaecgaa
namespace Go.Proofs.Ytnfkjmafhaecgaa
open Go.RowKit
attribute [local go_sem] run_store_complex
theorem suf_left {ts : List Lx.Tk} {a : Nat} {m : List Lx.Core} (h : m <:+ left ts a) : left ts (ts.length - m.length) = m := by
  have h2 : m <:+ ts.map Lx.Tk.core := h.trans (List.drop_suffix _ _)
  obtain ⟨p, e⟩ := h2
  have hl : p.length + m.length = ts.length := by rw [← List.length_append, e, List.length_map]
  unfold left
  rw [← e, show ts.length - m.length = p.length by omega, List.drop_left]
theorem suf_len {ts : List Lx.Tk} {a : Nat} {m : List Lx.Core} (h : m <:+ left ts a) : m.length ≤ ts.length - a := by
  have := h.length_le
  rwa [left_len] at this
theorem ExsD.but {R : Nat} {D : Nat → Prop} {w w' : World} {l : List Ex} {v : Value} (h : ExsD w D l v) (b : But R w w') (hD : ∀ k, D k → k < w.heap.size ∧ k ≠ R) : ExsD w' D l v :=
  h.stays fun k hk => b.block k (hD k hk).1 (hD k hk).2
def atOf (w : World) (R : Nat) : Nat := match w.cell? ⟨R, 1, none⟩ with
  | some (.int .i64 x) => x.toNat
  | _ => 0
theorem Rd.atOf {w : World} {R g cap : Nat} {s : ByteArray} {ts : List Lx.Tk} {a d : Nat} (h : Rd w R g cap s ts a d) : atOf w R = a := by
  unfold Proofs.Ytnfkjmafhaecgaa.atOf; rw [h.c1]; simp
theorem But.frozen {R : Nat} {w w' : World} (h : But R w w') {b : Nat} (hb : b < w.heap.size) (hn : b ≠ R) (o : Nat) : w'.frozen? ⟨b, o, none⟩ = w.frozen? ⟨b, o, none⟩ :=
  World.frozen?_of_block (w := w) (a := ⟨b, o, none⟩) (h.block b hb hn)
/-- A block that holds one expression. -/
structure Bx (w : World) (B : Nat) (k n : Int) (s : ByteArray) (v : Value) : Prop where
  c0 : w.cell? ⟨B, 0, none⟩ = some (.int .i64 k)
  c1 : w.cell? ⟨B, 1, none⟩ = some (.int .i64 n)
  c2 : w.cell? ⟨B, 2, none⟩ = some (.string s)
  c3 : w.cell? ⟨B, 3, none⟩ = some v
  zf : ∀ j, w.frozen? ⟨B, j, none⟩ = false
theorem Bx.new (w : World) (k n : Int) (s : ByteArray) (v : Value) : Bx (w.alloc (.cells #[.int .i64 k, .int .i64 n, .string s, v] 44)) w.heap.size k n s v := by
  constructor <;> simp
theorem Bx.lt {w : World} {B : Nat} {k n : Int} {s : ByteArray} {v : Value} (h : Bx w B k n s v) : B < w.heap.size := block_lt_of_cell h.c0
theorem Bx.but {R : Nat} {w w' : World} {B : Nat} {k n : Int} {s : ByteArray} {v : Value} (h : Bx w B k n s v) (b : But R w w') (hn : B ≠ R) : Bx w' B k n s v :=
  ⟨b.cell h.c0 hn, b.cell h.c1 hn, b.cell h.c2 hn, b.cell h.c3 hn, fun j => (b.frozen h.lt hn j).trans (h.zf j)⟩
theorem Bx.kept {w w' : World} {B : Nat} {k n : Int} {s : ByteArray} {v : Value} (h : Bx w B k n s v) (b : Kept w w') : Bx w' B k n s v :=
  ⟨b.cellS h.c0, b.cellS h.c1, b.cellS h.c2, b.cellS h.c3, fun j => (b.frozen (p := ⟨B, j, none⟩) h.lt).trans (h.zf j)⟩
theorem Bx.there {w : World} {B : Nat} {k n : Int} {s : ByteArray} {v : Value} (h : Bx w B k n s v) : w.there B 0 4 := there_of 4 (fun j hj => by
      match j, hj with
      | 0, _ => exact ⟨_, h.c0⟩
      | 1, _ => exact ⟨_, h.c1⟩
      | 2, _ => exact ⟨_, h.c2⟩
      | 3, _ => exact ⟨_, h.c3⟩) h.zf
theorem Bx.set {w : World} {B : Nat} {k n : Int} {s : ByteArray} {v : Value} (h : Bx w B k n s v) (k' n' : Int) (s' : ByteArray) (v' : Value) : Bx (w.setCells B 0 [.int .i64 k', .int .i64 n', .string s', v']) B k' n' s' v' := by
  have h1 := World.rangeAt_setCells_same w B 0 [.int .i64 k', .int .i64 n', .string s', v'] h.there
  refine ⟨h1 0 _ rfl, h1 1 _ rfl, h1 2 _ rfl, h1 3 _ rfl, fun j => ?_⟩
  show ((((w.setCell ⟨B, 0, none⟩ (.int .i64 k')).setCell ⟨B, 1, none⟩ (.int .i64 n')).setCell ⟨B, 2, none⟩ (.string s')).setCell ⟨B, 3, none⟩ v').frozen? ⟨B, j, none⟩ = false
  simp [h.zf j]
theorem esizeEx : (Try.prog.info? 44).map (·.size) = some 4 := by kernel_rfl
theorem Bx.range {w : World} {B : Nat} {k n : Int} {s : ByteArray} {v : Value} (h : Bx w B k n s v) : w.rangeAt B 0 [.int .i64 k, .int .i64 n, .string s, v] := fun j u hu => by
  match j, hu with
  | 0, hu => cases hu; exact h.c0
  | 1, hu => cases hu; exact h.c1
  | 2, hu => cases hu; exact h.c2
  | 3, hu => cases hu; exact h.c3
/-- A write of one's own. -/
theorem But.sets {R : Nat} {a w : World} (h : But R a w) {B : Nat} (hB : a.heap.size ≤ B) (o : Nat) (cs : List Value) : But R a (w.setCells B o cs) := by
  have hb : Below a.heap.size w (w.setCells B o cs) := Below.setCells (Below.refl _ w) hB _ _
  exact ⟨hb.os.trans h.os, hb.tape.trans h.tape, hb.output.trans h.output, Nat.le_trans h.size hb.size, fun i hi hn => (hb.block i hi).trans (h.block i hi hn)⟩
theorem Rd.sets {w : World} {R g cap : Nat} {s : ByteArray} {ts : List Lx.Tk} {a d : Nat} (h : Rd w R g cap s ts a d) {B : Nat} (hR : B ≠ R) (hg : B ≠ g) (o : Nat) (cs : List Value) : Rd (w.setCells B o cs) R g cap s ts a d := by
  have e : ∀ i, i ≠ B → (w.setCells B o cs).heap[i]? = w.heap[i]? := fun i hi => heap_setCells _ _ _ _ i hi
  have c : ∀ b j, b ≠ B → (w.setCells B o cs).cell? ⟨b, j, none⟩ = w.cell? ⟨b, j, none⟩ := fun b j hb => World.cell?_of_block (w := w) (a := ⟨b, j, none⟩) (e b hb)
  have f : ∀ b j, b ≠ B → (w.setCells B o cs).frozen? ⟨b, j, none⟩ = w.frozen? ⟨b, j, none⟩ := fun b j hb => World.frozen?_of_block (w := w) (a := ⟨b, j, none⟩) (e b hb)
  exact ⟨(c R 0 (Ne.symm hR)).trans h.c0, (c R 1 (Ne.symm hR)).trans h.c1, (c R 2 (Ne.symm hR)).trans h.c2, (f R 1 (Ne.symm hR)).trans h.z1, (f R 2 (Ne.symm hR)).trans h.z2, ⟨fun j hj => (c g j (Ne.symm hg)).trans (h.row.cells j hj)⟩, h.ne, by rw [size_setCells]; exact h.lt, h.few, h.le, h.sh⟩
/-- Where the parts of row's expression may lie. -/
abbrev Dn (w wr : World) (B : Nat) : Nat → Prop := fun k => w.heap.size < k ∧ k < wr.heap.size ∧ k ≠ B
end Go.Proofs.Ytnfkjmafhaecgaa
