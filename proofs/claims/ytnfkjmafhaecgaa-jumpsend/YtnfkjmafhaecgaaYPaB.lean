/- PaB -/
import Derived.Test.YtnfkjmafhaecgaaYPaA
import Derived.Test.YtnfkjmafhaecgaaYBs
import Derived.Deep.DrawnRows

namespace Go.Proofs.Ytnfkjmafhaecgaa
open Go.RowKit
attribute [local go_sem] run_store_complex
theorem BoxS.cell {w : World} {B : Nat} {cs : List Value} (h : BoxS w B cs) (j : Nat) {v : Value} (hv : cs[j]? = some v) : w.cell? ⟨B, j, none⟩ = some v := by
  have := h.rng j v hv; rwa [Nat.zero_add] at this
theorem BoxS.there {w : World} {B : Nat} {cs : List Value} (h : BoxS w B cs) (o n : Nat) (ho : o + n ≤ cs.length) : w.there B o n := fun j hj => ⟨by rw [h.cell (o + j) (List.getElem?_eq_getElem (by omega))]; rfl, h.fz _⟩
theorem BoxS.put {w w' : World} {B o : Nat} {cs vs : List Value} (h : BoxS w B cs) (k : Put B o vs w w') (ho : o + vs.length ≤ cs.length) (hs : w.heap.size ≤ w'.heap.size) : BoxS w' B (cs.take o ++ vs ++ cs.drop (o + vs.length)) := by
  have hlt : (cs.take o).length = o := by rw [List.length_take]; omega
  refine ⟨fun i v hv => ?_, fun j => (k.fz j).trans (h.fz j), Nat.lt_of_lt_of_le h.lt hs⟩
  rw [Nat.zero_add]
  by_cases h1 : i < o
  · rw [k.others i (.inl h1)]
    rw [List.append_assoc, List.getElem?_append_left (by omega), List.getElem?_take, if_pos h1] at hv
    exact h.cell i hv
  · by_cases h2 : i < o + vs.length
    · rw [List.append_assoc, List.getElem?_append_right (by omega), hlt, List.getElem?_append_left (by omega)] at hv
      have := k.cells (i - o) v hv
      rwa [show o + (i - o) = i by omega] at this
    · rw [k.others i (.inr (by omega))]
      rw [List.getElem?_append_right (by rw [List.length_append]; omega), List.length_append, hlt, List.getElem?_drop, show o + vs.length + (i - (o + vs.length)) = i by omega] at hv
      exact h.cell i hv
/-- The reader stands at l, a box holds cs. -/
structure AtB (R g cap : Nat) (s : ByteArray) (ts : List Lx.Tk) (d B : Nat) (w : World) (l : List Lx.Core) (cs : List Value) : Prop where
  rd : Rd w R g cap s ts (ts.length - l.length) d
  eq : left ts (ts.length - l.length) = l
  al : Pp.Alive l
  box : BoxS w B cs
  nR : B ≠ R
  ng : B ≠ g
section
variable {R g cap : Nat} {s : ByteArray} {ts : List Lx.Tk} {d B : Nat} {w : World} {l : List Lx.Core} {cs : List Value}
theorem AtB.suf (h : AtB R g cap s ts d B w l cs) {m : List Lx.Core} (hm : m <:+ l) : left ts (ts.length - m.length) = m := suf_left (a := ts.length - l.length) (by rw [h.eq]; exact hm)
theorem AtB.kept (h : AtB R g cap s ts d B w l cs) {w' : World} (k : Kept w w') : AtB R g cap s ts d B w' l cs := ⟨h.rd.kept k, h.eq, h.al, h.box.kept k, h.nR, h.ng⟩
theorem AtB.of {a : Nat} (h : Rd w R g cap s ts a d) (ha : Pp.Alive (left ts a)) (hb : BoxS w B cs) (nR : B ≠ R) (ng : B ≠ g) : AtB R g cap s ts d B w (left ts a) cs := by
  have e := len_left ts a (Nat.le_of_lt (alive_lt ha))
  exact ⟨by rw [e]; exact h, by rw [e], ha, hb, nR, ng⟩
/-- What a step leaves: it failed, or the reader stands behind what was read. -/
def StepR {α : Type} (R g cap : Nat) (s : ByteArray) (ts : List Lx.Tk) (B : Nat) (w : World) (r : Option α) (m : List Lx.Core) (C : α → World → Prop) (e : Ending) (w' : World) : Prop :=
  e = .returned (.bool r.isSome) ∧ Bu (RB R B) w w' ∧ (∃ d', Rd w' R g cap s ts (ts.length - m.length) d') ∧ ∀ x, r = some x → C x w'
end
section
variable {R g cap : Nat} {s : ByteArray} {ts : List Lx.Tk} {e B : Nat} {w : World} {l : List Lx.Core} {cs : List Value}
end
theorem StsD.nil (w : World) (D : Nat → Prop) : StsD w D [] (.slice none 0 0) :=
  .mk [] none 0 (fun _ => undef) (fun _ => undef) (fun _ => undef) ⟨Nat.le_refl _, Nat.zero_le _, fun _ => rfl⟩ (fun i h => by simp at h) (fun i h => by simp at h) (fun i h => by simp at h) (fun i h => by simp at h)
/-- What a statement's reading leaves. -/
def EndS (R g cap : Nat) (s : ByteArray) (ts : List Lx.Tk) (d B : Nat) (w : World) (r : Option St) (m : List Lx.Core) (e : Ending) (w' : World) : Prop :=
  StepR R g cap s ts B w r m (fun x w' => ∃ ev bv lv, AtB R g cap s ts d B w' m (x.cells ev bv lv) ∧ (Item.mk x ev bv lv).InD w' (Rng w.heap.size w'.heap.size)) e w'
section
variable {R g cap : Nat} {s : ByteArray} {ts : List Lx.Tk} {d B : Nat} {w w1 : World} {m : List Lx.Core}
theorem EndS.fail (hB : Bu (RB R B) w w1) (hR : ∃ d', Rd w1 R g cap s ts (ts.length - m.length) d') : EndS R g cap s ts d B w none m (.returned (.bool false)) w1 := ⟨rfl, hB, hR, fun x hx => by cases hx⟩
theorem EndS.done {x : St} {ev bv lv : Value} (hB : Bu (RB R B) w w1) (hA : AtB R g cap s ts d B w1 m (x.cells ev bv lv)) (hI : (Item.mk x ev bv lv).InD w1 (Rng w.heap.size w1.heap.size)) : EndS R g cap s ts d B w (some x) m (.returned (.bool true)) w1 :=
  ⟨rfl, hB, ⟨d, hA.rd⟩, fun y hy => by injection hy with hy; subst hy; exact ⟨ev, bv, lv, hA, hI⟩⟩
end
end Go.Proofs.Ytnfkjmafhaecgaa
namespace Go.Proofs.Ytnfkjmafhaecgaa
open Go.RowKit
attribute [local go_sem] run_store_complex
end Go.Proofs.Ytnfkjmafhaecgaa
namespace Go.Proofs.Ytnfkjmafhaecgaa
open Go.RowKit
attribute [local go_sem] run_store_complex
attribute [local go_sem ↓] Go.wp_at_zero Go.wp_at_succ
theorem AtB.set {R g cap : Nat} {s : ByteArray} {ts : List Lx.Tk} {d B : Nat} {w : World} {l : List Lx.Core} {cs : List Value} (h : AtB R g cap s ts d B w l cs) (j : Nat) (v : Value) (hj : j < cs.length) : AtB R g cap s ts d B (w.setCell ⟨B, j, none⟩ v) l (cs.take j ++ [v] ++ cs.drop (j + 1)) :=
  ⟨h.rd.put h.nR h.ng v, h.eq, h.al, h.box.set j [v] (by simp only [List.length_singleton]; omega), h.nR, h.ng⟩
theorem BoxS.off {w w' : World} {B : Nat} {cs : List Value} (h : BoxS w B cs) (e : w'.heap[B]? = w.heap[B]?) (hs : w.heap.size ≤ w'.heap.size) : BoxS w' B cs :=
  ⟨fun j v hv => by rw [World.cell?_of_block (w := w) (a := ⟨B, 0 + j, none⟩) e]; exact h.rng j v hv, fun j => by rw [World.frozen?_of_block (w := w) (a := ⟨B, j, none⟩) e]; exact h.fz j, Nat.lt_of_lt_of_le h.lt hs⟩
/-- Stepped over the next token. -/
theorem AtB.step {R g cap : Nat} {s : ByteArray} {ts : List Lx.Tk} {d B : Nat} {w : World} {l : List Lx.Core} {cs : List Value} (h : AtB R g cap s ts d B w l cs) (hn : (Px.hd l).2.1 ≠ []) : AtB R g cap s ts d B (w.setCell ⟨R, 1, none⟩ (.int .i64 (((ts.length - l.length : Nat) : Int) + 1))) l.tail cs := by
  have hp := h.al.pos
  have hle : l.length ≤ ts.length := by have := congrArg List.length h.eq; rw [left_len] at this; omega
  have ht : ts.length - l.tail.length = ts.length - l.length + 1 := by rw [List.length_tail]; omega
  refine ⟨?_, h.suf (List.tail_suffix _), h.al.tail (.inr hn), h.box.off (heap_setCells R [_] 1 w B h.nR) (Nat.le_of_eq (setCell_size ..).symm), h.nR, h.ng⟩
  rw [ht]
  exact h.rd.at' (ts.length - l.length + 1) (by omega)
end Go.Proofs.Ytnfkjmafhaecgaa
