/- PaA -/
import Derived.Test.YtnfkjmafhaecgaaYRdB
import Derived.Test.YtnfkjmafhaecgaaYPlB
import Derived.Deep.DrawnRows

namespace Go.Proofs.Ytnfkjmafhaecgaa
open Go.RowKit
attribute [local go_sem] run_store_complex
/-! ### Turned in some blocks alone -/
structure Bu (M : Nat → Prop) (w w' : World) : Prop where
  os : w'.os = w.os
  tape : w'.tape = w.tape
  output : w'.output = w.output
  size : w.heap.size ≤ w'.heap.size
  block : ∀ k, k < w.heap.size → ¬ M k → w'.heap[k]? = w.heap[k]?
theorem Bu.of {M : Nat → Prop} {w w' : World} (h : Kept w w') : Bu M w w' := ⟨h.os, h.tape, h.output, h.size, fun k hk _ => h.block k hk⟩
theorem Bu.refl (M : Nat → Prop) (w : World) : Bu M w w := Bu.of (Kept.refl w)
theorem Bu.then {M : Nat → Prop} {a b c : World} (h : Bu M a b) (k : Bu M b c) : Bu M a c :=
  ⟨k.os.trans h.os, k.tape.trans h.tape, k.output.trans h.output, Nat.le_trans h.size k.size, fun i hi hn => (k.block i (Nat.lt_of_lt_of_le hi h.size) hn).trans (h.block i hi hn)⟩
theorem Bu.up {M M' : Nat → Prop} {w w' : World} (h : Bu M w w') (k : ∀ i, i < w.heap.size → M i → M' i) : Bu M' w w' := ⟨h.os, h.tape, h.output, h.size, fun i hi hn => h.block i hi fun c => hn (k i hi c)⟩
theorem Bu.al {M : Nat → Prop} {a w : World} (h : Bu M a w) (o : Obj) : Bu M a (w.alloc o) := h.then (Bu.of ((Kept.refl _).al o))
theorem Bu.dr {M : Nat → Prop} {a w : World} (h : Bu M a w) : Bu M a w.drew := h.then (Bu.of (Kept.refl _).dr)
theorem Bu.sets {M : Nat → Prop} {a w : World} (h : Bu M a w) {B : Nat} (hB : M B ∨ a.heap.size ≤ B) (o : Nat) (cs : List Value) : Bu M a (w.setCells B o cs) := by
  have hb : Below 0 w (w.setCells B o cs) := Below.setCells (Below.refl _ w) (Nat.zero_le _) _ _
  refine ⟨hb.os.trans h.os, hb.tape.trans h.tape, hb.output.trans h.output, Nat.le_trans h.size hb.size, fun i hi hn => (heap_setCells _ _ _ _ i ?_).trans (h.block i hi hn)⟩
  rintro rfl
  rcases hB with hB | hB
  · exact hn hB
  · omega
theorem Bu.set {M : Nat → Prop} {a w : World} (h : Bu M a w) {B : Nat} (hB : M B ∨ a.heap.size ≤ B) (o : Nat) (v : Value) : Bu M a (w.setCell ⟨B, o, none⟩ v) := h.sets hB o [v]
theorem Bu.cellE {M : Nat → Prop} {w w' : World} (h : Bu M w w') {b : Nat} (hb : b < w.heap.size) (hn : ¬ M b) (o : Nat) : w'.cell? ⟨b, o, none⟩ = w.cell? ⟨b, o, none⟩ := World.cell?_of_block (w := w) (a := ⟨b, o, none⟩) (h.block b hb hn)
theorem Bu.cell {M : Nat → Prop} {w w' : World} (h : Bu M w w') {b o : Nat} {v : Value} (hc : w.cell? ⟨b, o, none⟩ = some v) (hn : ¬ M b) : w'.cell? ⟨b, o, none⟩ = some v := (h.cellE (block_lt_of_cell hc) hn o).trans hc
theorem Bu.kept {M : Nat → Prop} {w w' a : World} (h : Bu M w w') (k : Kept a w) (hM : ∀ i, M i → a.heap.size ≤ i) : Kept a w' :=
  ⟨h.os.trans k.os, h.tape.trans k.tape, h.output.trans k.output, Nat.le_trans k.size h.size, fun i hi => (h.block i (Nat.lt_of_lt_of_le hi k.size) (fun c => by have := hM i c; omega)).trans (k.block i hi)⟩
theorem Bu.stays {M D : Nat → Prop} {w w' : World} (h : Bu M w w') (hD : ∀ k, D k → k < w.heap.size ∧ ¬ M k) : StaysD D w w' := fun k hk => h.block k (hD k hk).1 (hD k hk).2
theorem But.bu {R : Nat} {M : Nat → Prop} {w w' : World} (h : But R w w') (hM : M R) : Bu M w w' := ⟨h.os, h.tape, h.output, h.size, fun k hk hn => h.block k hk fun e => hn (e ▸ hM)⟩
/-! ### Words -/
theorem eqb_no {t c : List UInt8} (h : t ≠ c) : (t == c) = false := beq_eq_false_iff_ne.2 h
theorem tl_no {t : List UInt8} {c : List UInt8} (h : t ≠ c) : ((⟨t.toArray⟩ : ByteArray).toList == c) = false := by rw [toList_data]; exact eqb_no h
/-! ### The token that is next -/
/-- Where the token stands of which, with it, so many are left. -/
def plOf (s : ByteArray) (ts : List Lx.Tk) : Pp.Pl := fun n => (lineW s (ts.getD (ts.length - n) ⟨0, 0, [], 0⟩).at', colW s (ts.getD (ts.length - n) ⟨0, 0, [], 0⟩).at')
theorem plOf_at (s : ByteArray) (ts : List Lx.Tk) (a : Nat) (h : a < ts.length) : plOf s ts (left ts a).length = (lineW s ts[a].at', colW s ts[a].at') := by
  unfold plOf
  rw [left_len, show ts.length - (ts.length - a) = a by omega]
  simp [List.getD, h]
/-! ### A token's parts -/
end Go.Proofs.Ytnfkjmafhaecgaa
namespace Go.Proofs.Ytnfkjmafhaecgaa
open Go.RowKit
attribute [local go_sem] run_store_complex
attribute [local go_sem ↓] Go.wp_at_zero Go.wp_at_succ
abbrev RB (R B : Nat) : Nat → Prop := fun k => k = R ∨ k = B
/-- In block B the values vs lie from o on; all else there is as it was. -/
structure Put (B o : Nat) (vs : List Value) (w w' : World) : Prop where
  cells : w'.rangeAt B o vs
  others : ∀ j, (j < o ∨ o + vs.length ≤ j) → w'.cell? ⟨B, j, none⟩ = w.cell? ⟨B, j, none⟩
  fz : ∀ j, w'.frozen? ⟨B, j, none⟩ = w.frozen? ⟨B, j, none⟩
theorem Put.sets {w : World} {B o : Nat} (vs : List Value) (h : w.there B o vs.length) : Put B o vs w (w.setCells B o vs) :=
  ⟨World.rangeAt_setCells_same w B o vs h, fun j hj => World.cell?_setCells_out B vs o w ⟨B, j, none⟩ fun _ _ => hj, fun _ => World.frozen?_setCells ..⟩
/-- Behind it, all in block B is as it was. -/
theorem Put.after {B o : Nat} {vs : List Value} {w w1 w2 : World} (h : Put B o vs w w1) (e : w2.heap[B]? = w1.heap[B]?) : Put B o vs w w2 :=
  ⟨fun j v hv => by rw [World.cell?_of_block (w := w1) (a := ⟨B, o + j, none⟩) e]; exact h.cells j v hv, fun j hj => by rw [World.cell?_of_block (w := w1) (a := ⟨B, j, none⟩) e]; exact h.others j hj,
   fun j => by rw [World.frozen?_of_block (w := w1) (a := ⟨B, j, none⟩) e]; exact h.fz j⟩
theorem len_left (ts : List Lx.Tk) (a : Nat) (h : a ≤ ts.length) : ts.length - (left ts a).length = a := by
  rw [left_len]; omega
theorem alive_lt {ts : List Lx.Tk} {a : Nat} (h : Pp.Alive (left ts a)) : a < ts.length := by
  have := h.pos
  rw [left_len] at this; omega
theorem Rd.put {w : World} {R g cap : Nat} {s : ByteArray} {ts : List Lx.Tk} {a d : Nat} (h : Rd w R g cap s ts a d) {B o : Nat} (hR : B ≠ R) (hg : B ≠ g) (v : Value) : Rd (w.setCell ⟨B, o, none⟩ v) R g cap s ts a d := h.sets hR hg o [v]
end Go.Proofs.Ytnfkjmafhaecgaa
namespace Go.Proofs.Ytnfkjmafhaecgaa
open Go.RowKit
attribute [local go_sem] run_store_complex
attribute [local go_sem ↓] Go.wp_at_zero Go.wp_at_succ
end Go.Proofs.Ytnfkjmafhaecgaa
