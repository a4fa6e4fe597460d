/- RdA RdB -/
import Derived.Test.YtnfkjmafhaecgaaTNm5
import Derived.Test.YtnfkjmafhaecgaaTLxA
import Derived.BigQuiet
import Derived.Deep.QuietTactic
import Derived.Test.YtnfkjmafhaecgaaTPlA
import Derived.Deep.RegionHeld3
import Derived.Laws.EntriesVeiled
import Derived.Test.YtnfkjmafhaecgaaTKpA
import Derived.Laws.ResultCell

namespace Go.Proofs.Ytnfkjmafhaecgaa
open Go.RowKit
attribute [local go_sem] run_store_complex
theorem ne_int {k c : Int} (h : k ≠ c) : (k == c) = false := by rw [beq_eq_false_iff_ne]; exact h
/-! ### The reader in memory -/
structure But (R : Nat) (w w' : World) : Prop where
  os : w'.os = w.os
  tape : w'.tape = w.tape
  output : w'.output = w.output
  size : w.heap.size ≤ w'.heap.size
  block : ∀ k, k < w.heap.size → k ≠ R → w'.heap[k]? = w.heap[k]?
theorem But.of {R : Nat} {w w' : World} (h : Kept w w') : But R w w' := ⟨h.os, h.tape, h.output, h.size, fun k hk _ => h.block k hk⟩
theorem But.refl (R : Nat) (w : World) : But R w w := But.of (Kept.refl w)
theorem But.then {R : Nat} {a b c : World} (h : But R a b) (k : But R b c) : But R a c :=
  ⟨k.os.trans h.os, k.tape.trans h.tape, k.output.trans h.output, Nat.le_trans h.size k.size, fun i hi hn => (k.block i (Nat.lt_of_lt_of_le hi h.size) hn).trans (h.block i hi hn)⟩
theorem But.al {R : Nat} {a w : World} (h : But R a w) (o : Obj) : But R a (w.alloc o) := h.then (But.of ((Kept.refl _).al o))
theorem But.set {R : Nat} {a w : World} (h : But R a w) (o : Nat) (v : Value) : But R a (w.setCell ⟨R, o, none⟩ v) := by
  have hB : Below 0 w (w.setCell ⟨R, o, none⟩ v) := (Below.refl 0 w).setCell (Nat.zero_le _) v
  exact ⟨hB.os.trans h.os, hB.tape.trans h.tape, hB.output.trans h.output, Nat.le_trans h.size hB.size, fun i hi hn => (Below.heap_setCell w _ v i (fun e => hn e)).trans (h.block i hi hn)⟩
theorem But.cell {R : Nat} {w w' : World} (h : But R w w') {b o : Nat} {v : Value} (hc : w.cell? ⟨b, o, none⟩ = some v) (hn : b ≠ R) : w'.cell? ⟨b, o, none⟩ = some v := by
  rw [World.cell?_of_block (w := w) (a := ⟨b, o, none⟩) (h.block b (block_lt_of_cell hc) hn)]; exact hc
structure Row (s : ByteArray) (ts : List Lx.Tk) (g : Nat) (w : World) : Prop where
  cells : ∀ j, j < ts.length * 4 → w.cell? ⟨g, j, none⟩ = (cellsOf s ts)[j]?
structure Rd (w : World) (R g cap : Nat) (s : ByteArray) (ts : List Lx.Tk) (a d : Nat) : Prop where
  c0 : w.cell? ⟨R, 0, none⟩ = some (.slice (some ⟨g, 0, none⟩) ts.length cap)
  c1 : w.cell? ⟨R, 1, none⟩ = some (.int .i64 (a : Int))
  c2 : w.cell? ⟨R, 2, none⟩ = some (.int .i64 (d : Int))
  z1 : w.frozen? ⟨R, 1, none⟩ = false
  z2 : w.frozen? ⟨R, 2, none⟩ = false
  row : Row s ts g w
  ne : g ≠ R
  lt : g < w.heap.size
  few : ts.length ≤ 6001
  le : a ≤ ts.length
  sh : d ≤ 8
theorem setCell_size (w : World) (a : Addr) (v : Value) : (w.setCell a v).heap.size = w.heap.size := by simp
theorem addr_ne' {B i j : Nat} (h : i ≠ j) : (⟨B, i, none⟩ : Addr) ≠ ⟨B, j, none⟩ := by intro e; exact h (Addr.mk.inj e).2.1
theorem addr_nb {B C i j : Nat} (h : B ≠ C) : (⟨B, i, none⟩ : Addr) ≠ ⟨C, j, none⟩ := by intro e; exact h (Addr.mk.inj e).1
abbrev left (ts : List Lx.Tk) (a : Nat) : List Lx.Core := (ts.map Lx.Tk.core).drop a
theorem hd_in (ts : List Lx.Tk) (a : Nat) (h : a < ts.length) : Px.hd (left ts a) = (ts[a].kind, ts[a].text, ts[a].n) := by
  unfold left Px.hd
  rw [List.drop_eq_getElem_cons (by simpa using h)]
  simp [Lx.Tk.core]
theorem left_tail (ts : List Lx.Tk) (a : Nat) : (left ts a).tail = left ts (a + 1) := by
  unfold left; rw [List.tail_drop]
theorem left_len (ts : List Lx.Tk) (a : Nat) : (left ts a).length = ts.length - a := by simp [left]
theorem eq_text (tx : List UInt8) (x : ByteArray) : ((⟨tx.toArray⟩ : ByteArray).toList == x.toList) = (tx == x.data.toList) := by
  rw [toList_data, toList_data]
end Go.Proofs.Ytnfkjmafhaecgaa
namespace Go.Proofs.Ytnfkjmafhaecgaa
open Go.RowKit
attribute [local go_sem] run_store_complex
abbrev oe (o : Option Ex) : Ex := o.getD ex0
def Red (R g cap : Nat) (s : ByteArray) (ts : List Lx.Tk) (d : Nat) (w : World) (o : Option Ex) (m : List Lx.Core) (e : Ending) (w' : World) : Prop :=
  ∃ (x : Ex) (b : Bool) (a : Option Addr) (n q : Nat), e = .returned (.tuple #[.agg #[.int .i64 x.kind, .int .i64 x.n, .string x.name, .slice a n q], .bool b]) ∧ x = oe o ∧ b = o.isSome ∧ ExsIn w' w.heap.size w'.heap.size x.of (.slice a n q) ∧ But R w w' ∧ Rd w' R g cap s ts (ts.length - m.length) d
def PM (F : Nat) (d : Nat) (part : Px.P) : Prop := ∀ (R g cap : Nat) (s : ByteArray) (ts : List Lx.Tk) (a : Nat) (w : World), Rd w R g cap s ts a d → ∀ o m, part (left ts a) = (o, m) →
  Calls Try.prog F #[.pointer (some ⟨R, 0, none⟩)] w fun e w' => Red R g cap s ts d w o m e w'
theorem suf_left {ts : List Lx.Tk} {a : Nat} {m : List Lx.Core} (h : m <:+ left ts a) : left ts (ts.length - m.length) = m := by
  have h2 : m <:+ ts.map Lx.Tk.core := h.trans (List.drop_suffix _ _)
  obtain ⟨p, e⟩ := h2
  have hl : p.length + m.length = ts.length := by rw [← List.length_append, e, List.length_map]
  unfold left
  rw [← e, show ts.length - m.length = p.length by omega, List.drop_left]
theorem suf_len {ts : List Lx.Tk} {a : Nat} {m : List Lx.Core} (h : m <:+ left ts a) : m.length ≤ ts.length - a := by
  have := h.length_le
  rwa [left_len] at this
theorem ExsD.but {R : Nat} {D : Nat → Prop} {w w' : World} {l : List Ex} {v : Value} (h : ExsD w D l v) (b : But R w w') (hD : ∀ k, D k → k < w.heap.size ∧ k ≠ R) : ExsD w' D l v :=
  h.stays fun k hk => b.block k (hD k hk).1 (hD k hk).2
def atOf (w : World) (R : Nat) : Nat := match w.cell? ⟨R, 1, none⟩ with
  | some (.int .i64 x) => x.toNat
  | _ => 0
theorem But.frozen {R : Nat} {w w' : World} (h : But R w w') {b : Nat} (hb : b < w.heap.size) (hn : b ≠ R) (o : Nat) : w'.frozen? ⟨b, o, none⟩ = w.frozen? ⟨b, o, none⟩ :=
  World.frozen?_of_block (w := w) (a := ⟨b, o, none⟩) (h.block b hb hn)
structure Bx (w : World) (B : Nat) (k n : Int) (s : ByteArray) (v : Value) : Prop where
  c0 : w.cell? ⟨B, 0, none⟩ = some (.int .i64 k)
  c1 : w.cell? ⟨B, 1, none⟩ = some (.int .i64 n)
  c2 : w.cell? ⟨B, 2, none⟩ = some (.string s)
  c3 : w.cell? ⟨B, 3, none⟩ = some v
  zf : ∀ j, w.frozen? ⟨B, j, none⟩ = false
theorem Bx.new (w : World) (k n : Int) (s : ByteArray) (v : Value) : Bx (w.alloc (.cells #[.int .i64 k, .int .i64 n, .string s, v] 44)) w.heap.size k n s v := by
  constructor <;> simp
theorem Bx.lt {w : World} {B : Nat} {k n : Int} {s : ByteArray} {v : Value} (h : Bx w B k n s v) : B < w.heap.size := block_lt_of_cell h.c0
theorem Bx.but {R : Nat} {w w' : World} {B : Nat} {k n : Int} {s : ByteArray} {v : Value} (h : Bx w B k n s v) (b : But R w w') (hn : B ≠ R) : Bx w' B k n s v :=
  ⟨b.cell h.c0 hn, b.cell h.c1 hn, b.cell h.c2 hn, b.cell h.c3 hn, fun j => (b.frozen h.lt hn j).trans (h.zf j)⟩
theorem Bx.kept {w w' : World} {B : Nat} {k n : Int} {s : ByteArray} {v : Value} (h : Bx w B k n s v) (b : Kept w w') : Bx w' B k n s v :=
  ⟨b.cellS h.c0, b.cellS h.c1, b.cellS h.c2, b.cellS h.c3, fun j => (b.frozen (p := ⟨B, j, none⟩) h.lt).trans (h.zf j)⟩
theorem Bx.there {w : World} {B : Nat} {k n : Int} {s : ByteArray} {v : Value} (h : Bx w B k n s v) : w.there B 0 4 := there_of 4 (fun j hj => by
      match j, hj with
      | 0, _ => exact ⟨_, h.c0⟩
      | 1, _ => exact ⟨_, h.c1⟩
      | 2, _ => exact ⟨_, h.c2⟩
      | 3, _ => exact ⟨_, h.c3⟩) h.zf
theorem Bx.set {w : World} {B : Nat} {k n : Int} {s : ByteArray} {v : Value} (h : Bx w B k n s v) (k' n' : Int) (s' : ByteArray) (v' : Value) : Bx (w.setCells B 0 [.int .i64 k', .int .i64 n', .string s', v']) B k' n' s' v' := by
  have h1 := World.rangeAt_setCells_same w B 0 [.int .i64 k', .int .i64 n', .string s', v'] h.there
  refine ⟨h1 0 _ rfl, h1 1 _ rfl, h1 2 _ rfl, h1 3 _ rfl, fun j => ?_⟩
  show ((((w.setCell ⟨B, 0, none⟩ (.int .i64 k')).setCell ⟨B, 1, none⟩ (.int .i64 n')).setCell ⟨B, 2, none⟩ (.string s')).setCell ⟨B, 3, none⟩ v').frozen? ⟨B, j, none⟩ = false
  simp [h.zf j]
theorem esizeEx : (Try.prog.info? 44).map (·.size) = some 4 := by kernel_rfl
theorem Bx.range {w : World} {B : Nat} {k n : Int} {s : ByteArray} {v : Value} (h : Bx w B k n s v) : w.rangeAt B 0 [.int .i64 k, .int .i64 n, .string s, v] := fun j u hu => by
  match j, hu with
  | 0, hu => cases hu; exact h.c0
  | 1, hu => cases hu; exact h.c1
  | 2, hu => cases hu; exact h.c2
  | 3, hu => cases hu; exact h.c3
theorem But.sets {R : Nat} {a w : World} (h : But R a w) {B : Nat} (hB : a.heap.size ≤ B) (o : Nat) (cs : List Value) : But R a (w.setCells B o cs) := by
  have hb : Below a.heap.size w (w.setCells B o cs) := Below.setCells (Below.refl _ w) hB _ _
  exact ⟨hb.os.trans h.os, hb.tape.trans h.tape, hb.output.trans h.output, Nat.le_trans h.size hb.size, fun i hi hn => (hb.block i hi).trans (h.block i hi hn)⟩
abbrev Dn (w wr : World) (B : Nat) : Nat → Prop := fun k => w.heap.size < k ∧ k < wr.heap.size ∧ k ≠ B
end Go.Proofs.Ytnfkjmafhaecgaa

namespace Go.Proofs.Ytnfkjmafhaecgaa
open Go.RowKit
attribute [local go_sem] run_store_complex
abbrev zw (w : World) : World := w.alloc (.cells #[.int .i64 0, .int .i64 0, .string ⟨#[]⟩, .slice none 0 0] 44)
theorem zw_kept (w : World) : Kept w (zw w) := (Kept.refl _).al _
theorem zw_size (w : World) : (zw w).heap.size = w.heap.size + 1 := by simp
theorem zw_bx (w : World) : Bx (zw w) w.heap.size 0 0 ⟨#[]⟩ (.slice none 0 0) := Bx.new ..
theorem up_tree {w w1 : World} {x : Ex} {v : Value} (h : ExsIn w1 (zw w).heap.size w1.heap.size x.of v) : ExsD w1 (fun k => w.heap.size < k ∧ k < w1.heap.size) x.of v :=
  h.mono fun k hk => ⟨by have := hk.1; rw [zw_size] at this; omega, hk.2⟩
theorem heap_at {W : World} {k : Nat} (h : W.heap.size = k) (o : Obj) : (W.alloc o).heap[k]? = some o := by subst h; exact heap_alloc_new _ _
theorem tree_up {B : Nat} {cs : List Value} {wr W : World} {l : List Ex} {v : Value} (hK : Kept (wr.setCells B 0 cs) W) (hT : ExsD wr (fun k => B < k ∧ k < wr.heap.size) l v) : ExsD W (fun k => B < k ∧ k < W.heap.size) l v := by
  have hs := hK.size
  rw [size_setCells] at hs
  refine (hT.stays fun k hk => (hK.block k (by rw [size_setCells]; exact hk.2)).trans (heap_setCells _ _ _ _ k (by have := hk.1; omega))).mono fun k hk => ⟨hk.1, by have := hk.2; omega⟩
end Go.Proofs.Ytnfkjmafhaecgaa
namespace Go.Proofs.Ytnfkjmafhaecgaa
open Go.RowKit
attribute [local go_sem] run_store_complex
end Go.Proofs.Ytnfkjmafhaecgaa
namespace Go.Proofs.Ytnfkjmafhaecgaa
open Go.RowKit
attribute [local go_sem] run_store_complex
theorem results_cell_tmp2 {fn : Func} {p u v : Tmp} {ty : TypeId} (h : fn.results = #[.cell p ty, .tmp u, .tmp v]) (tmps : Array Value) (P : Program) (w : World) :
    (results fn tmps).run P w =
      ((asAddr (tmps.getD p undef)).run P w).andThen fun a w₁ => ((loadVar ty a).run P w₁).andThen fun x w₂ => .ok (.tuple #[x, tmps.getD u undef, tmps.getD v undef]) w₂ := by
  simp only [results, h]
  simp [Sem.run_bind, Result.andThen]
end Go.Proofs.Ytnfkjmafhaecgaa
