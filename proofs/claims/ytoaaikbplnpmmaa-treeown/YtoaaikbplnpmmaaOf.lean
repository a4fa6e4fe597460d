/- What TreeOwn wants besides: Same that is false by the declarations alone; worlds that part in some blocks only; a count. -/
import Derived.Test.YtoaaikbplnpmmaaLw
namespace Go.Proofs.Ytoaaikbplnpmmaa
open Go.RowKit
attribute [local go_sem] run_store_complex

set_option maxRecDepth 100000 in
set_option maxHeartbeats 1000000 in
theorem same_decl_false (d d' : List Dc) (w : World) (dv dv' : Value) (a2 a4 : Option Addr) (n2 q2 n4 q4 : Nat) (hd : DsIn w 0 w.heap.size d dv) (hd' : DsIn w 0 w.heap.size d' dv') (hs : Dc.sames d d' = false) :
    Calls Try.prog 13 #[.agg #[dv, .slice a2 n2 q2], .agg #[dv', .slice a4 n4 q4]] w fun e w' => e = .returned (.bool false) ∧ Kept w w' := by
  have H1 : Hid (∀ W, Kept w W → Calls Try.prog 30 #[dv, dv', .func (.func 31) #[] #[]] W fun e w' => e = .returned (.bool false) ∧ Kept W w') :=
    fun W hW => by have := eqfDc d d' W dv dv' (hd.up (Nat.le_refl _) hW) (hd'.up (Nat.le_refl _) hW); rwa [hs] at this
  obtain ⟨a1, q1, rfl, -⟩ := hd.open
  obtain ⟨a3, q3, rfl, -⟩ := hd'.open
  clear hd hd' hs
  go_enter Try.func13, Try.ntmps13
  go_wp2_with fail
  refine (H1.out _ (((Kept.refl _).al _).al _)).mono ?_
  rintro e w1 ⟨rfl, kw⟩
  have HB1 : Hid (Kept w w1) := (((Kept.refl _).al _).al _ : Kept w _).then kw
  clear kw
  go_wp2_with fail
  go_ret
  exact ⟨rfl, HB1.out⟩
#print axioms same_decl_false

/-- w' is w grown, and turned in blocks of D alone. -/
structure Off (D : Nat → Prop) (w w' : World) : Prop where
  os : w'.os = w.os
  tape : w'.tape = w.tape
  output : w'.output = w.output
  size : w.heap.size ≤ w'.heap.size
  block : ∀ k, k < w.heap.size → ¬ D k → w'.heap[k]? = w.heap[k]?
theorem Off.of {D : Nat → Prop} {w w' : World} (h : Kept w w') : Off D w w' := ⟨h.os, h.tape, h.output, h.size, fun k hk _ => h.block k hk⟩
theorem Off.then {D : Nat → Prop} {a b c : World} (h : Off D a b) (k : Off D b c) : Off D a c :=
  ⟨k.os.trans h.os, k.tape.trans h.tape, k.output.trans h.output, Nat.le_trans h.size k.size, fun i hi hn => (k.block i (Nat.lt_of_lt_of_le hi h.size) hn).trans (h.block i hi hn)⟩
theorem Off.set {D : Nat → Prop} {a w : World} (h : Off D a w) {b : Nat} (hb : D b) (o : Nat) (v : Value) : Off D a (w.setCell ⟨b, o, none⟩ v) := by
  have hB : Below 0 w (w.setCell ⟨b, o, none⟩ v) := (Below.refl 0 w).setCell (Nat.zero_le _) v
  exact ⟨hB.os.trans h.os, hB.tape.trans h.tape, hB.output.trans h.output, Nat.le_trans h.size hB.size, fun i hi hn => (Below.heap_setCell w _ v i (fun e => hn (by have : i = b := e; subst this; exact hb))).trans (h.block i hi hn)⟩
theorem Off.kept {D : Nat → Prop} {w w' a : World} (h : Off D w w') (k : Kept a w) (hD : ∀ i, D i → a.heap.size ≤ i) : Kept a w' :=
  ⟨h.os.trans k.os, h.tape.trans k.tape, h.output.trans k.output, Nat.le_trans k.size h.size, fun i hi => (h.block i (Nat.lt_of_lt_of_le hi k.size) (fun hd => by have := hD i hd; omega)).trans (k.block i hi)⟩
theorem Off.stays {D D' : Nat → Prop} {w w' : World} (h : Off D w w') (hD : ∀ i, D' i → i < w.heap.size ∧ ¬ D i) : StaysD D' w w' := fun i hi => h.block i (hD i hi).1 (hD i hi).2
theorem Off.cell {D : Nat → Prop} {w w' : World} (h : Off D w w') {b o : Nat} {v : Value} (hc : w.cell? ⟨b, o, none⟩ = some v) (hn : ¬ D b) : w'.cell? ⟨b, o, none⟩ = some v := by
  rw [World.cell?_of_block (w := w) (a := ⟨b, o, none⟩) (h.block b (block_lt_of_cell hc) hn)]; exact hc

/-- What the last loop adds at one statement. -/
def St.step (s : St) : Int := 1 - s.body.length - s.els.length
def stepSum : List St → Int
  | [] => 0
  | s :: l => s.step + stepSum l
theorem stepSum_append (l m : List St) : stepSum (l ++ m) = stepSum l + stepSum m := by
  induction l with
  | nil => simp [stepSum]
  | cons a l ih => simp only [List.cons_append, stepSum, ih]; omega
theorem stepSum_of (l : List St) (H : ∀ x ∈ l, stepSum (St.flat x) = 1) : stepSum (St.flats l) = l.length := by
  induction l with
  | nil => rfl
  | cons a l ih =>
    rw [St.flats, stepSum_append, H a (List.mem_cons_self ..), ih fun x hx => H x (List.mem_cons_of_mem _ hx), List.length_cons]; omega
theorem stepSum_flat (s : St) : stepSum (St.flat s) = 1 := by
  refine St.ind (P := fun s => stepSum (St.flat s) = 1) (fun s hb hl => ?_) s
  rw [St.flat_eq, stepSum, stepSum_append, stepSum_of _ hb, stepSum_of _ hl]
  unfold St.step; omega
theorem stepSum_flats (l : List St) : stepSum (St.flats l) = l.length := stepSum_of l fun x _ => stepSum_flat x
theorem stepSum_ts (t : List (List St)) (h : t.length = 2) : ∃ (h0 : 0 < t.length) (h1 : 1 < t.length), stepSum (flatTs t) = (t[0].length : Int) + t[1].length := by
  match t, h with
  | [a, b], _ => exact ⟨by simp, by simp, by simp [flatTs, stepSum_append, stepSum_flats]⟩
theorem stepSum_take (l : List St) (k : Nat) (h : k < l.length) : stepSum (l.take (k + 1)) = stepSum (l.take k) + l[k].step := by
  rw [List.take_succ_eq_append_getElem h, stepSum_append]; simp [stepSum]
/-- The statement x of the copy, at b, o, as TreeOwn turns it: its own slices stay, the kinds of what they hold are numbers, and nothing turns but in D. -/
structure OwnX (D : Nat → Prop) (w0 : World) (b o : Nat) (e1 : Option Addr) (f1 g1 : Nat) (e2 : Option Addr) (f2 g2 : Nat) (wr : World) : Prop where
  off : Off D w0 wr
  fz : ∀ j, wr.frozen? ⟨b, j, none⟩ = false
  y7 : wr.cell? ⟨b, o + 7, none⟩ = some (.slice e1 f1 g1)
  y8 : wr.cell? ⟨b, o + 8, none⟩ = some (.slice e2 f2 g2)
  ex : ∀ i, i < f1 → ∃ bE oE z, e1 = some ⟨bE, oE, none⟩ ∧ D bE ∧ (∀ j, wr.frozen? ⟨bE, j, none⟩ = false) ∧ wr.cell? ⟨bE, oE + i * 4, none⟩ = some (.int .i64 z)
  bo : ∀ i, i < f2 → ∃ bE oE z, e2 = some ⟨bE, oE, none⟩ ∧ D bE ∧ (∀ j, wr.frozen? ⟨bE, j, none⟩ = false) ∧ wr.cell? ⟨bE, oE + i * 11, none⟩ = some (.int .i64 z)
theorem cell_other {w : World} {b o b' o' : Nat} {u v x : Value} (hc : w.cell? ⟨b, o, none⟩ = some u) (hc' : w.cell? ⟨b', o', none⟩ = some x) (hne : u ≠ x) : (w.setCell ⟨b', o', none⟩ v).cell? ⟨b, o, none⟩ = some u := by
  rw [World.cell?_setCell_other _ _ _ _ (by
    intro e
    have e' : (⟨b, o, none⟩ : Addr) = ⟨b', o', none⟩ := by first | exact e | exact e.symm
    rw [e', hc'] at hc
    exact hne (Option.some.inj hc).symm)]
  exact hc
theorem cell_int {w : World} {b o b' o' : Nat} {z z0 : Int} {v : Value} (hc : w.cell? ⟨b, o, none⟩ = some (.int .i64 z)) (hc' : w.cell? ⟨b', o', none⟩ = some (.int .i64 z0)) (zn : Int) (hv : v = .int .i64 zn) : ∃ z', (w.setCell ⟨b', o', none⟩ v).cell? ⟨b, o, none⟩ = some (.int .i64 z') := by
  subst hv
  by_cases h : (⟨b, o, none⟩ : Addr) = ⟨b', o', none⟩
  · rw [h]; exact ⟨zn, World.cell?_setCell_same _ _ _ hc'⟩
  · exact ⟨z, by rw [World.cell?_setCell_other _ _ _ _ (by first | exact h | exact fun e => h e.symm)]; exact hc⟩
theorem OwnX.setInt {D : Nat → Prop} {w0 : World} {b o : Nat} {e1 : Option Addr} {f1 g1 : Nat} {e2 : Option Addr} {f2 g2 : Nat} {wr : World} (h : OwnX D w0 b o e1 f1 g1 e2 f2 g2 wr) {b' o' : Nat} {z0 : Int} (hD : D b') (hc : wr.cell? ⟨b', o', none⟩ = some (.int .i64 z0)) (z : Int) :
    OwnX D w0 b o e1 f1 g1 e2 f2 g2 (wr.setCell ⟨b', o', none⟩ (.int .i64 z)) := by
  refine ⟨h.off.set hD _ _, fun j => by rw [World.frozen?_setCell]; exact h.fz j, cell_other h.y7 hc (by simp), cell_other h.y8 hc (by simp), fun i hi => ?_, fun i hi => ?_⟩
  · obtain ⟨bE, oE, z1, r1, r2, r3, r4⟩ := h.ex i hi
    obtain ⟨z2, r5⟩ := cell_int r4 hc z rfl
    exact ⟨bE, oE, z2, r1, r2, fun j => by rw [World.frozen?_setCell]; exact r3 j, r5⟩
  · obtain ⟨bE, oE, z1, r1, r2, r3, r4⟩ := h.bo i hi
    obtain ⟨z2, r5⟩ := cell_int r4 hc z rfl
    exact ⟨bE, oE, z2, r1, r2, fun j => by rw [World.frozen?_setCell]; exact r3 j, r5⟩
theorem OwnX.setStr {D : Nat → Prop} {w0 : World} {b o : Nat} {e1 : Option Addr} {f1 g1 : Nat} {e2 : Option Addr} {f2 g2 : Nat} {wr : World} (h : OwnX D w0 b o e1 f1 g1 e2 f2 g2 wr) {b' o' : Nat} {s0 : ByteArray} (hD : D b') (hc : wr.cell? ⟨b', o', none⟩ = some (.string s0)) (s : ByteArray) :
    OwnX D w0 b o e1 f1 g1 e2 f2 g2 (wr.setCell ⟨b', o', none⟩ (.string s)) := by
  refine ⟨h.off.set hD _ _, fun j => by rw [World.frozen?_setCell]; exact h.fz j, cell_other h.y7 hc (by simp), cell_other h.y8 hc (by simp), fun i hi => ?_, fun i hi => ?_⟩
  · obtain ⟨bE, oE, z1, r1, r2, r3, r4⟩ := h.ex i hi
    exact ⟨bE, oE, z1, r1, r2, fun j => by rw [World.frozen?_setCell]; exact r3 j, cell_other r4 hc (by simp)⟩
  · obtain ⟨bE, oE, z1, r1, r2, r3, r4⟩ := h.bo i hi
    exact ⟨bE, oE, z1, r1, r2, fun j => by rw [World.frozen?_setCell]; exact r3 j, cell_other r4 hc (by simp)⟩
theorem OwnX.kept {D : Nat → Prop} {w0 : World} {b o : Nat} {e1 : Option Addr} {f1 g1 : Nat} {e2 : Option Addr} {f2 g2 : Nat} {wr wc : World} (h : OwnX D w0 b o e1 f1 g1 e2 f2 g2 wr) (k : Kept wr wc) : OwnX D w0 b o e1 f1 g1 e2 f2 g2 wc := by
  refine ⟨h.off.then (Off.of k), fun j => (k.frozen (p := ⟨b, j, none⟩) (show b < wr.heap.size from block_lt_of_cell h.y7)).trans (h.fz j), k.cellS h.y7, k.cellS h.y8, fun i hi => ?_, fun i hi => ?_⟩
  · obtain ⟨bE, oE, z1, r1, r2, r3, r4⟩ := h.ex i hi
    exact ⟨bE, oE, z1, r1, r2, fun j => (k.frozen (p := ⟨bE, j, none⟩) (show bE < wr.heap.size from block_lt_of_cell r4)).trans (r3 j), k.cellS r4⟩
  · obtain ⟨bE, oE, z1, r1, r2, r3, r4⟩ := h.bo i hi
    exact ⟨bE, oE, z1, r1, r2, fun j => (k.frozen (p := ⟨bE, j, none⟩) (show bE < wr.heap.size from block_lt_of_cell r4)).trans (r3 j), k.cellS r4⟩
#print axioms OwnX.setStr
#print axioms stepSum_ts
end Go.Proofs.Ytoaaikbplnpmmaa
