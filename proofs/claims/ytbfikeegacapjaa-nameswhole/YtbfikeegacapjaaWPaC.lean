/- PaA PaB PaC -/
import Derived.Test.YtbfikeegacapjaaWRdB
import Derived.Test.YtbfikeegacapjaaWPlB
import Derived.Deep.DrawnRows
import Derived.Test.YtbfikeegacapjaaWBs
import Derived.OneCell
import Derived.Deep.RegionWith
import Derived.Deep.RegionLaw

namespace Go.Proofs.Ytbfikeegacapjaa
open Go.RowKit
attribute [local go_sem] run_store_complex
/-! ### Turned in some blocks alone -/
structure Bu (M : Nat → Prop) (w w' : World) : Prop where
  os : w'.os = w.os
  tape : w'.tape = w.tape
  output : w'.output = w.output
  size : w.heap.size ≤ w'.heap.size
  block : ∀ k, k < w.heap.size → ¬ M k → w'.heap[k]? = w.heap[k]?
theorem Bu.of {M : Nat → Prop} {w w' : World} (h : Kept w w') : Bu M w w' := ⟨h.os, h.tape, h.output, h.size, fun k hk _ => h.block k hk⟩
theorem Bu.refl (M : Nat → Prop) (w : World) : Bu M w w := Bu.of (Kept.refl w)
theorem Bu.then {M : Nat → Prop} {a b c : World} (h : Bu M a b) (k : Bu M b c) : Bu M a c :=
  ⟨k.os.trans h.os, k.tape.trans h.tape, k.output.trans h.output, Nat.le_trans h.size k.size, fun i hi hn => (k.block i (Nat.lt_of_lt_of_le hi h.size) hn).trans (h.block i hi hn)⟩
theorem Bu.sets {M : Nat → Prop} {a w : World} (h : Bu M a w) {B : Nat} (hB : M B ∨ a.heap.size ≤ B) (o : Nat) (cs : List Value) : Bu M a (w.setCells B o cs) := by
  have hb : Below 0 w (w.setCells B o cs) := Below.setCells (Below.refl _ w) (Nat.zero_le _) _ _
  refine ⟨hb.os.trans h.os, hb.tape.trans h.tape, hb.output.trans h.output, Nat.le_trans h.size hb.size, fun i hi hn => (heap_setCells _ _ _ _ i ?_).trans (h.block i hi hn)⟩
  rintro rfl
  rcases hB with hB | hB
  · exact hn hB
  · omega
theorem Bu.set {M : Nat → Prop} {a w : World} (h : Bu M a w) {B : Nat} (hB : M B ∨ a.heap.size ≤ B) (o : Nat) (v : Value) : Bu M a (w.setCell ⟨B, o, none⟩ v) := h.sets hB o [v]
theorem Bu.kept {M : Nat → Prop} {w w' a : World} (h : Bu M w w') (k : Kept a w) (hM : ∀ i, M i → a.heap.size ≤ i) : Kept a w' :=
  ⟨h.os.trans k.os, h.tape.trans k.tape, h.output.trans k.output, Nat.le_trans k.size h.size, fun i hi => (h.block i (Nat.lt_of_lt_of_le hi k.size) (fun c => by have := hM i c; omega)).trans (k.block i hi)⟩
theorem But.bu {R : Nat} {M : Nat → Prop} {w w' : World} (h : But R w w') (hM : M R) : Bu M w w' := ⟨h.os, h.tape, h.output, h.size, fun k hk hn => h.block k hk fun e => hn (e ▸ hM)⟩
/-! ### Words -/
theorem eqb_no {t c : List UInt8} (h : t ≠ c) : (t == c) = false := beq_eq_false_iff_ne.2 h
theorem tl_no {t : List UInt8} {c : List UInt8} (h : t ≠ c) : ((⟨t.toArray⟩ : ByteArray).toList == c) = false := by rw [toList_data]; exact eqb_no h
/-! ### The token that is next -/
def plOf (s : ByteArray) (ts : List Lx.Tk) : Pp.Pl := fun n => (lineW s (ts.getD (ts.length - n) ⟨0, 0, [], 0⟩).at', colW s (ts.getD (ts.length - n) ⟨0, 0, [], 0⟩).at')
theorem plOf_at (s : ByteArray) (ts : List Lx.Tk) (a : Nat) (h : a < ts.length) : plOf s ts (left ts a).length = (lineW s ts[a].at', colW s ts[a].at') := by
  unfold plOf
  rw [left_len, show ts.length - (ts.length - a) = a by omega]
  simp [List.getD, h]
/-! ### A token's parts -/
end Go.Proofs.Ytbfikeegacapjaa
namespace Go.Proofs.Ytbfikeegacapjaa
open Go.RowKit
attribute [local go_sem] run_store_complex
attribute [local go_sem ↓] Go.wp_at_zero Go.wp_at_succ
abbrev RB (R B : Nat) : Nat → Prop := fun k => k = R ∨ k = B
theorem alive_lt {ts : List Lx.Tk} {a : Nat} (h : Pp.Alive (left ts a)) : a < ts.length := by
  have := h.pos
  rw [left_len] at this; omega
end Go.Proofs.Ytbfikeegacapjaa
namespace Go.Proofs.Ytbfikeegacapjaa
open Go.RowKit
attribute [local go_sem] run_store_complex
attribute [local go_sem ↓] Go.wp_at_zero Go.wp_at_succ
end Go.Proofs.Ytbfikeegacapjaa

namespace Go.Proofs.Ytbfikeegacapjaa
open Go.RowKit
attribute [local go_sem] run_store_complex
theorem BoxS.cell {w : World} {B : Nat} {cs : List Value} (h : BoxS w B cs) (j : Nat) {v : Value} (hv : cs[j]? = some v) : w.cell? ⟨B, j, none⟩ = some v := by
  have := h.rng j v hv; rwa [Nat.zero_add] at this
theorem BoxS.there {w : World} {B : Nat} {cs : List Value} (h : BoxS w B cs) (o n : Nat) (ho : o + n ≤ cs.length) : w.there B o n := fun j hj => ⟨by rw [h.cell (o + j) (List.getElem?_eq_getElem (by omega))]; rfl, h.fz _⟩
section
variable {R g cap : Nat} {s : ByteArray} {ts : List Lx.Tk} {d B : Nat} {w : World} {l : List Lx.Core} {cs : List Value}
end
section
variable {R g cap : Nat} {s : ByteArray} {ts : List Lx.Tk} {e B : Nat} {w : World} {l : List Lx.Core} {cs : List Value}
end
theorem StsD.nil (w : World) (D : Nat → Prop) : StsD w D [] (.slice none 0 0) :=
  .mk [] none 0 (fun _ => undef) (fun _ => undef) (fun _ => undef) ⟨Nat.le_refl _, Nat.zero_le _, fun _ => rfl⟩ (fun i h => by simp at h) (fun i h => by simp at h) (fun i h => by simp at h) (fun i h => by simp at h)
section
variable {R g cap : Nat} {s : ByteArray} {ts : List Lx.Tk} {d B : Nat} {w w1 : World} {m : List Lx.Core}
end
end Go.Proofs.Ytbfikeegacapjaa
namespace Go.Proofs.Ytbfikeegacapjaa
open Go.RowKit
attribute [local go_sem] run_store_complex
end Go.Proofs.Ytbfikeegacapjaa
namespace Go.Proofs.Ytbfikeegacapjaa
open Go.RowKit
attribute [local go_sem] run_store_complex
attribute [local go_sem ↓] Go.wp_at_zero Go.wp_at_succ
theorem BoxS.off {w w' : World} {B : Nat} {cs : List Value} (h : BoxS w B cs) (e : w'.heap[B]? = w.heap[B]?) (hs : w.heap.size ≤ w'.heap.size) : BoxS w' B cs :=
  ⟨fun j v hv => by rw [World.cell?_of_block (w := w) (a := ⟨B, 0 + j, none⟩) e]; exact h.rng j v hv, fun j => by rw [World.frozen?_of_block (w := w) (a := ⟨B, j, none⟩) e]; exact h.fz j, Nat.lt_of_lt_of_le h.lt hs⟩
end Go.Proofs.Ytbfikeegacapjaa

namespace Go.Proofs.Ytbfikeegacapjaa
open Go.RowKit
attribute [local go_sem] run_store_complex
attribute [local go_sem ↓] Go.wp_at_zero Go.wp_at_succ
theorem step_append_rows {P : Program} {w : World} {ops : Array Oper} {o : Oper} {a : Act} {K : Act → World → Prop} {Q : Exit → Act → World → Prop} {E' : Prop} (hgd : o.guard = none) (s x : Operand) (t : TypeId)
    (ho : o.op = .call { callee := .builtin .append, args := #[s, x], argTypes := #[t, t] })
    {e : TypeId} {z : Value} {size bytes : Nat} (E : ElemOf P t e z size bytes) {base : Nat} {v : Value} {n : Nat} {xs : List Value} (hs : a.eval s = v) (hown : w.ownsRow base e size v n xs)
    {base' : Nat} {vs : Value} {m : Nat} {news : List Value} (hx : a.eval x = vs) (hsrc : w.ownsRow base' e size vs m news) (h1 : ∀ u ∈ news, u.oneCell' = true) (hb : (n + m) * bytes ≤ 140737488355328) (h63 : n + m ≤ maxLen) (hbase : base ≤ w.heap.size)
    (h : ∀ ad cap w', Hid (Grew w base e size v n xs m news (.slice ad (n + m) cap) w') → K (a.put o.dst (.slice ad (n + m) cap)) w') : if Region.wanted o (yielded ops a.tmps) = true then Oper.wp P o a w K Q else E' := by
  have hw : Region.wanted o (yielded ops a.tmps) = true := by simp [Region.wanted, hgd]
  rw [if_pos hw]
  obtain ⟨v', w', hr, hG⟩ := run_append_rows E o.type hown hsrc h1 hb h63 hbase
  obtain ⟨ad, cap, rfl, _⟩ := own_slice hG.own
  unfold Oper.wp execOp
  simp only [ho, resolve, invoke, builtin, Sem.run_bind, Sem.run_pure, Result.andThen_ok, List.map_toArray, List.map_cons, List.map_nil, hs, hx, hr]
  exact h ad cap w' hG
theorem OwnK.bu {M : Nat → Prop} {w w' : World} {base : Nat} {ps : List Item} {v : Value} (h : OwnK w base (Far base w v) ps v) (b : Bu M w w') (hM : ∀ k, base ≤ k → k < w.heap.size → ¬ M k) : OwnK w' base (Far base w' v) ps v := by
  have hst : StaysD (Far base w v) w w' := fun k hk => b.block k hk.2.1 (hM k hk.1 hk.2.1)
  refine ⟨?_, Nat.le_trans h.le b.size, fun p hp => ((h.kids p hp).stays hst).mono fun k hk => ⟨hk.1, Nat.lt_of_lt_of_le hk.2.1 b.size, hk.2.2⟩⟩
  refine ⟨h.row.1, ?_⟩
  rcases h.row.2 with h0 | ⟨g, cap, cur, e, hb, hg, r⟩
  · exact .inl h0
  · have hlt : g < w.heap.size := by
      rcases Nat.lt_or_ge g w.heap.size with c | c
      · exact c
      · rw [Array.getElem?_eq_none (by omega)] at hg; cases hg
    exact .inr ⟨g, cap, cur, e, hb, (b.block g hlt (hM g hb hlt)).trans hg, r⟩
section
variable {R g cap : Nat} {s : ByteArray} {ts : List Lx.Tk} {d B o : Nat} {w wr w2 : World} {l m : List Lx.Core} {ps : List Item} {v : Value}
end
end Go.Proofs.Ytbfikeegacapjaa
namespace Go.Proofs.Ytbfikeegacapjaa
open Go.RowKit
attribute [local go_sem] run_store_complex
attribute [local go_sem ↓] Go.wp_at_zero Go.wp_at_succ
end Go.Proofs.Ytbfikeegacapjaa
