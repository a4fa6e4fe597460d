/- PaA PaB PaC Ma Tq Rt9 -/
import Derived.Test.YtnfkjmafhaecgaaTRdB
import Derived.Test.YtnfkjmafhaecgaaTPlB
import Derived.Deep.DrawnRows
import Derived.Test.YtnfkjmafhaecgaaTBs
import Derived.OneCell
import Derived.Deep.RegionWith
import Derived.Deep.RegionLaw
import Derived.Test.YtnfkjmafhaecgaaTJp
import Derived.BigQuiet
import Derived.Deep.QuietTactic
import Derived.Deep.RegionHeld3
import Derived.Test.YtnfkjmafhaecgaaTRl8

namespace Go.Proofs.Ytnfkjmafhaecgaa
open Go.RowKit
attribute [local go_sem] run_store_complex
/-! ### Turned in some blocks alone -/
structure Bu (M : Nat → Prop) (w w' : World) : Prop where
  os : w'.os = w.os
  tape : w'.tape = w.tape
  output : w'.output = w.output
  size : w.heap.size ≤ w'.heap.size
  block : ∀ k, k < w.heap.size → ¬ M k → w'.heap[k]? = w.heap[k]?
theorem Bu.of {M : Nat → Prop} {w w' : World} (h : Kept w w') : Bu M w w' := ⟨h.os, h.tape, h.output, h.size, fun k hk _ => h.block k hk⟩
theorem Bu.refl (M : Nat → Prop) (w : World) : Bu M w w := Bu.of (Kept.refl w)
theorem Bu.then {M : Nat → Prop} {a b c : World} (h : Bu M a b) (k : Bu M b c) : Bu M a c :=
  ⟨k.os.trans h.os, k.tape.trans h.tape, k.output.trans h.output, Nat.le_trans h.size k.size, fun i hi hn => (k.block i (Nat.lt_of_lt_of_le hi h.size) hn).trans (h.block i hi hn)⟩
theorem Bu.al {M : Nat → Prop} {a w : World} (h : Bu M a w) (o : Obj) : Bu M a (w.alloc o) := h.then (Bu.of ((Kept.refl _).al o))
theorem Bu.sets {M : Nat → Prop} {a w : World} (h : Bu M a w) {B : Nat} (hB : M B ∨ a.heap.size ≤ B) (o : Nat) (cs : List Value) : Bu M a (w.setCells B o cs) := by
  have hb : Below 0 w (w.setCells B o cs) := Below.setCells (Below.refl _ w) (Nat.zero_le _) _ _
  refine ⟨hb.os.trans h.os, hb.tape.trans h.tape, hb.output.trans h.output, Nat.le_trans h.size hb.size, fun i hi hn => (heap_setCells _ _ _ _ i ?_).trans (h.block i hi hn)⟩
  rintro rfl
  rcases hB with hB | hB
  · exact hn hB
  · omega
theorem Bu.set {M : Nat → Prop} {a w : World} (h : Bu M a w) {B : Nat} (hB : M B ∨ a.heap.size ≤ B) (o : Nat) (v : Value) : Bu M a (w.setCell ⟨B, o, none⟩ v) := h.sets hB o [v]
theorem Bu.cellE {M : Nat → Prop} {w w' : World} (h : Bu M w w') {b : Nat} (hb : b < w.heap.size) (hn : ¬ M b) (o : Nat) : w'.cell? ⟨b, o, none⟩ = w.cell? ⟨b, o, none⟩ := World.cell?_of_block (w := w) (a := ⟨b, o, none⟩) (h.block b hb hn)
theorem Bu.cell {M : Nat → Prop} {w w' : World} (h : Bu M w w') {b o : Nat} {v : Value} (hc : w.cell? ⟨b, o, none⟩ = some v) (hn : ¬ M b) : w'.cell? ⟨b, o, none⟩ = some v := (h.cellE (block_lt_of_cell hc) hn o).trans hc
theorem Bu.kept {M : Nat → Prop} {w w' a : World} (h : Bu M w w') (k : Kept a w) (hM : ∀ i, M i → a.heap.size ≤ i) : Kept a w' :=
  ⟨h.os.trans k.os, h.tape.trans k.tape, h.output.trans k.output, Nat.le_trans k.size h.size, fun i hi => (h.block i (Nat.lt_of_lt_of_le hi k.size) (fun c => by have := hM i c; omega)).trans (k.block i hi)⟩
theorem Bu.stays {M D : Nat → Prop} {w w' : World} (h : Bu M w w') (hD : ∀ k, D k → k < w.heap.size ∧ ¬ M k) : StaysD D w w' := fun k hk => h.block k (hD k hk).1 (hD k hk).2
theorem But.bu {R : Nat} {M : Nat → Prop} {w w' : World} (h : But R w w') (hM : M R) : Bu M w w' := ⟨h.os, h.tape, h.output, h.size, fun k hk hn => h.block k hk fun e => hn (e ▸ hM)⟩
/-! ### Words -/
theorem eqb_no {t c : List UInt8} (h : t ≠ c) : (t == c) = false := beq_eq_false_iff_ne.2 h
theorem tl_no {t : List UInt8} {c : List UInt8} (h : t ≠ c) : ((⟨t.toArray⟩ : ByteArray).toList == c) = false := by rw [toList_data]; exact eqb_no h
/-! ### The token that is next -/
def plOf (s : ByteArray) (ts : List Lx.Tk) : Pp.Pl := fun n => (lineW s (ts.getD (ts.length - n) ⟨0, 0, [], 0⟩).at', colW s (ts.getD (ts.length - n) ⟨0, 0, [], 0⟩).at')
theorem plOf_at (s : ByteArray) (ts : List Lx.Tk) (a : Nat) (h : a < ts.length) : plOf s ts (left ts a).length = (lineW s ts[a].at', colW s ts[a].at') := by
  unfold plOf
  rw [left_len, show ts.length - (ts.length - a) = a by omega]
  simp [List.getD, h]
/-! ### A token's parts -/
end Go.Proofs.Ytnfkjmafhaecgaa
namespace Go.Proofs.Ytnfkjmafhaecgaa
open Go.RowKit
attribute [local go_sem] run_store_complex
attribute [local go_sem ↓] Go.wp_at_zero Go.wp_at_succ
abbrev RB (R B : Nat) : Nat → Prop := fun k => k = R ∨ k = B
theorem alive_lt {ts : List Lx.Tk} {a : Nat} (h : Pp.Alive (left ts a)) : a < ts.length := by
  have := h.pos
  rw [left_len] at this; omega
end Go.Proofs.Ytnfkjmafhaecgaa
namespace Go.Proofs.Ytnfkjmafhaecgaa
open Go.RowKit
attribute [local go_sem] run_store_complex
attribute [local go_sem ↓] Go.wp_at_zero Go.wp_at_succ
end Go.Proofs.Ytnfkjmafhaecgaa

namespace Go.Proofs.Ytnfkjmafhaecgaa
open Go.RowKit
attribute [local go_sem] run_store_complex
theorem BoxS.cell {w : World} {B : Nat} {cs : List Value} (h : BoxS w B cs) (j : Nat) {v : Value} (hv : cs[j]? = some v) : w.cell? ⟨B, j, none⟩ = some v := by
  have := h.rng j v hv; rwa [Nat.zero_add] at this
theorem BoxS.there {w : World} {B : Nat} {cs : List Value} (h : BoxS w B cs) (o n : Nat) (ho : o + n ≤ cs.length) : w.there B o n := fun j hj => ⟨by rw [h.cell (o + j) (List.getElem?_eq_getElem (by omega))]; rfl, h.fz _⟩
section
variable {R g cap : Nat} {s : ByteArray} {ts : List Lx.Tk} {d B : Nat} {w : World} {l : List Lx.Core} {cs : List Value}
end
section
variable {R g cap : Nat} {s : ByteArray} {ts : List Lx.Tk} {e B : Nat} {w : World} {l : List Lx.Core} {cs : List Value}
end
theorem StsD.nil (w : World) (D : Nat → Prop) : StsD w D [] (.slice none 0 0) :=
  .mk [] none 0 (fun _ => undef) (fun _ => undef) (fun _ => undef) ⟨Nat.le_refl _, Nat.zero_le _, fun _ => rfl⟩ (fun i h => by simp at h) (fun i h => by simp at h) (fun i h => by simp at h) (fun i h => by simp at h)
section
variable {R g cap : Nat} {s : ByteArray} {ts : List Lx.Tk} {d B : Nat} {w w1 : World} {m : List Lx.Core}
end
end Go.Proofs.Ytnfkjmafhaecgaa
namespace Go.Proofs.Ytnfkjmafhaecgaa
open Go.RowKit
attribute [local go_sem] run_store_complex
end Go.Proofs.Ytnfkjmafhaecgaa
namespace Go.Proofs.Ytnfkjmafhaecgaa
open Go.RowKit
attribute [local go_sem] run_store_complex
attribute [local go_sem ↓] Go.wp_at_zero Go.wp_at_succ
theorem BoxS.off {w w' : World} {B : Nat} {cs : List Value} (h : BoxS w B cs) (e : w'.heap[B]? = w.heap[B]?) (hs : w.heap.size ≤ w'.heap.size) : BoxS w' B cs :=
  ⟨fun j v hv => by rw [World.cell?_of_block (w := w) (a := ⟨B, 0 + j, none⟩) e]; exact h.rng j v hv, fun j => by rw [World.frozen?_of_block (w := w) (a := ⟨B, j, none⟩) e]; exact h.fz j, Nat.lt_of_lt_of_le h.lt hs⟩
end Go.Proofs.Ytnfkjmafhaecgaa

namespace Go.Proofs.Ytnfkjmafhaecgaa
open Go.RowKit
attribute [local go_sem] run_store_complex
attribute [local go_sem ↓] Go.wp_at_zero Go.wp_at_succ
theorem step_append_rows {P : Program} {w : World} {ops : Array Oper} {o : Oper} {a : Act} {K : Act → World → Prop} {Q : Exit → Act → World → Prop} {E' : Prop} (hgd : o.guard = none) (s x : Operand) (t : TypeId)
    (ho : o.op = .call { callee := .builtin .append, args := #[s, x], argTypes := #[t, t] })
    {e : TypeId} {z : Value} {size bytes : Nat} (E : ElemOf P t e z size bytes) {base : Nat} {v : Value} {n : Nat} {xs : List Value} (hs : a.eval s = v) (hown : w.ownsRow base e size v n xs)
    {base' : Nat} {vs : Value} {m : Nat} {news : List Value} (hx : a.eval x = vs) (hsrc : w.ownsRow base' e size vs m news) (h1 : ∀ u ∈ news, u.oneCell' = true) (hb : (n + m) * bytes ≤ 140737488355328) (h63 : n + m ≤ maxLen) (hbase : base ≤ w.heap.size)
    (h : ∀ ad cap w', Hid (Grew w base e size v n xs m news (.slice ad (n + m) cap) w') → K (a.put o.dst (.slice ad (n + m) cap)) w') : if Region.wanted o (yielded ops a.tmps) = true then Oper.wp P o a w K Q else E' := by
  have hw : Region.wanted o (yielded ops a.tmps) = true := by simp [Region.wanted, hgd]
  rw [if_pos hw]
  obtain ⟨v', w', hr, hG⟩ := run_append_rows E o.type hown hsrc h1 hb h63 hbase
  obtain ⟨ad, cap, rfl, _⟩ := own_slice hG.own
  unfold Oper.wp execOp
  simp only [ho, resolve, invoke, builtin, Sem.run_bind, Sem.run_pure, Result.andThen_ok, List.map_toArray, List.map_cons, List.map_nil, hs, hx, hr]
  exact h ad cap w' hG
theorem OwnK.bu {M : Nat → Prop} {w w' : World} {base : Nat} {ps : List Item} {v : Value} (h : OwnK w base (Far base w v) ps v) (b : Bu M w w') (hM : ∀ k, base ≤ k → k < w.heap.size → ¬ M k) : OwnK w' base (Far base w' v) ps v := by
  have hst : StaysD (Far base w v) w w' := fun k hk => b.block k hk.2.1 (hM k hk.1 hk.2.1)
  refine ⟨?_, Nat.le_trans h.le b.size, fun p hp => ((h.kids p hp).stays hst).mono fun k hk => ⟨hk.1, Nat.lt_of_lt_of_le hk.2.1 b.size, hk.2.2⟩⟩
  refine ⟨h.row.1, ?_⟩
  rcases h.row.2 with h0 | ⟨g, cap, cur, e, hb, hg, r⟩
  · exact .inl h0
  · have hlt : g < w.heap.size := by
      rcases Nat.lt_or_ge g w.heap.size with c | c
      · exact c
      · rw [Array.getElem?_eq_none (by omega)] at hg; cases hg
    exact .inr ⟨g, cap, cur, e, hb, (b.block g hlt (hM g hb hlt)).trans hg, r⟩
section
variable {R g cap : Nat} {s : ByteArray} {ts : List Lx.Tk} {d B o : Nat} {w wr w2 : World} {l m : List Lx.Core} {ps : List Item} {v : Value}
end
end Go.Proofs.Ytnfkjmafhaecgaa
namespace Go.Proofs.Ytnfkjmafhaecgaa
open Go.RowKit
attribute [local go_sem] run_store_complex
attribute [local go_sem ↓] Go.wp_at_zero Go.wp_at_succ
end Go.Proofs.Ytnfkjmafhaecgaa

namespace Go.Proofs.Ytnfkjmafhaecgaa
open Go.RowKit
namespace Jf
structure Mk where
  it : Item
  path : List Nat
  thr : Nat
  pv : Value
def ints (l : List Nat) : List Value := l.map fun i : Nat => Value.int .i64 (i : Int)
def Mk.cells (m : Mk) : List Value := m.it.cells ++ [m.pv, .int .i64 (m.thr : Int)]
def Mk.said (m : Mk) : St × List Nat × Nat := (m.it.s, m.path, m.thr)
def An.said (a : An) : St × List Nat × Nat := (a.s, a.path, a.thr)
def mkCells (ms : List Mk) : List Value := ms.flatMap Mk.cells
theorem mkCells_append (a b : List Mk) : mkCells (a ++ b) = mkCells a ++ mkCells b := by simp [mkCells]
theorem mkCells_one (m : Mk) : mkCells [m] = m.cells := by simp [mkCells]
theorem mkCells_get (ms : List Mk) : ∀ i (h : i < ms.length) r, r < 13 → (mkCells ms)[i * 13 + r]? = ms[i].cells[r]? := by
  induction ms with
  | nil => intro i h; simp at h
  | cons p ps ih =>
    intro i h r hr
    rw [show mkCells (p :: ps) = p.cells ++ mkCells ps from by simp [mkCells]]
    have hl : p.cells.length = 13 := rfl
    cases i with
    | zero => rw [List.getElem?_append_left (by omega)]; simp
    | succ i =>
      rw [List.getElem?_append_right (by omega), hl, show (i + 1) * 13 + r - 13 = i * 13 + r by omega]
      rw [ih i (by simpa using h) r hr]; rfl
end Jf
open Jf
theorem elemM : ElemOf Try.prog 65 68 (.agg #[.int .i64 0, .string ⟨#[]⟩, .string ⟨#[]⟩, .int .i64 0, .int .i64 0, .int .i64 0, .string ⟨#[]⟩, .slice none 0 0, .slice none 0 0, .slice none 0 0, .complex .f64 0 0, .slice none 0 0, .int .i64 0]) 13 200 := ⟨Try.underlying65, by kernel_rfl, rfl, by decide⟩
theorem own_low {w : World} {base base' e s n : Nat} {v : Value} {xs : List Value} (h : w.ownsRow base e s v n xs) (hb : base' ≤ base) : w.ownsRow base' e s v n xs := by
  refine ⟨h.1, ?_⟩
  rcases h.2 with h0 | ⟨g, cap, cur, e, hb', r⟩
  · exact .inl h0
  · exact .inr ⟨g, cap, cur, e, Nat.le_trans hb hb', r⟩
structure Jf.Mk.InD (w : World) (base hi : Nat) (m : Mk) : Prop where
  it : m.it.InD w (Rng 0 hi)
  row : w.ownsRow base 3 1 m.pv m.path.length (ints m.path)
theorem Jf.Mk.InD.one {w : World} {base hi : Nat} {m : Mk} (h : m.InD w base hi) : ∀ u ∈ m.cells, u.oneCell' = true := by
  intro u hu
  rcases List.mem_append.1 hu with hu | hu
  · exact h.it.one u hu
  · obtain ⟨a, cap, e, -⟩ := own_slice h.row
    simp only [List.mem_cons, List.not_mem_nil, or_false] at hu
    rcases hu with rfl | rfl
    · rw [e]; rfl
    · rfl
theorem Jf.Mk.InD.low {w : World} {base base' hi : Nat} {m : Mk} (h : m.InD w base hi) (hb : base' ≤ base) : m.InD w base' hi := ⟨h.it, own_low h.row hb⟩
theorem Bu.grown {w w' : World} {B : Nat} (b : Bu (· = B) w w') : w.grownBy w' (some B) := ⟨b.os, b.tape, b.output, b.size, fun k hk hn => b.block k hk fun e => hn (by rw [e])⟩
theorem Jf.Mk.InD.bu {w w' : World} {base hi B : Nat} {m : Mk} (h : m.InD w base hi) (b : Bu (· = B) w w') (h1 : hi ≤ B) (h2 : B < base) (hw : base ≤ w.heap.size) : m.InD w' base hi := by
  refine ⟨h.it.stays (b.stays fun k hk => ⟨by have := hk.2; omega, fun e => by have := hk.2; omega⟩), h.row.kept (Bu.grown b) ?_⟩
  refine .inr fun e => ?_
  have := (h.row.lt B e).1
  omega
theorem Jf.Mk.InD.kept {w w' : World} {base hi : Nat} {m : Mk} (h : m.InD w base hi) (k : Kept w w') (hw : hi ≤ w.heap.size) : m.InD w' base hi :=
  ⟨h.it.stays fun i hi => k.block i (by have := hi.2; omega), h.row.kept (Grow.kept (.slice none 0 0) k).grown (by cases hv : m.pv.ownBlock <;> simp [Value.ownBlock])⟩
structure OwnM (w : World) (base hi : Nat) (ms : List Mk) (v : Value) : Prop where
  row : w.ownsRow base 68 13 v ms.length (mkCells ms)
  le : base ≤ w.heap.size
  kids : ∀ m ∈ ms, m.InD w base hi
theorem OwnM.nil (w : World) (base hi : Nat) (h : base ≤ w.heap.size) : OwnM w base hi [] (.slice none 0 0) := ⟨⟨rfl, .inl ⟨rfl, rfl⟩⟩, h, fun _ h => by cases h⟩
theorem OwnM.one {w : World} {base hi : Nat} {ms : List Mk} {v : Value} (h : OwnM w base hi ms v) : ∀ u ∈ mkCells ms, u.oneCell' = true := by
  intro u hu
  simp only [mkCells, List.mem_flatMap] at hu
  obtain ⟨p, hp, hu⟩ := hu
  exact (h.kids p hp).one u hu
theorem OwnM.low {w : World} {base base' hi : Nat} {ms : List Mk} {v : Value} (h : OwnM w base hi ms v) (hb : base' ≤ base) : OwnM w base' hi ms v := ⟨own_low h.row hb, Nat.le_trans hb h.le, fun m hm => (h.kids m hm).low hb⟩
theorem OwnM.bu {w w' : World} {base hi B : Nat} {ms : List Mk} {v : Value} (h : OwnM w base hi ms v) (b : Bu (· = B) w w') (h1 : hi ≤ B) (h2 : B < base) : OwnM w' base hi ms v :=
  ⟨h.row.kept (Bu.grown b) (.inr fun e => by have := (h.row.lt B e).1; omega), Nat.le_trans h.le b.size, fun m hm => (h.kids m hm).bu b h1 h2 h.le⟩
theorem OwnM.kept {w w' : World} {base hi : Nat} {ms : List Mk} {v : Value} (h : OwnM w base hi ms v) (k : Kept w w') (hw : hi ≤ w.heap.size) : OwnM w' base hi ms v :=
  ⟨h.row.kept (Grow.kept (.slice none 0 0) k).grown (by cases hv : v.ownBlock <;> simp [Value.ownBlock]), Nat.le_trans h.le k.size, fun m hm => (h.kids m hm).kept k hw⟩
theorem own_apart {w : World} {base base' s s' n n' e e' : Nat} {v v' : Value} {xs ys : List Value} (h : w.ownsRow base e s v n xs) (h' : w.ownsRow base' e' s' v' n' ys) (he : e ≠ e') : v.ownBlock = none ∨ v.ownBlock ≠ v'.ownBlock := by
  rcases h.2 with ⟨rfl, -⟩ | ⟨g, cap, cur, rfl, -, h1, -⟩
  · exact .inl rfl
  · rcases h'.2 with ⟨rfl, -⟩ | ⟨g', cap', cur', rfl, -, h2, -⟩
    · exact .inr (by simp [Value.ownBlock])
    · refine .inr fun e0 => ?_
      simp only [Value.ownBlock, Option.some.injEq] at e0
      subst e0
      rw [h1] at h2
      injection h2 with h2
      injection h2 with _ h3
      exact he h3
theorem OwnM.grew {w w' : World} {base hi : Nat} {ms qs : List Mk} {v v' : Value} (h : OwnM w base hi ms v) (hb : hi ≤ base) (hq : ∀ m ∈ qs, m.InD w base hi) (hG : Grew w base 68 13 v ms.length (mkCells ms) qs.length (mkCells qs) v' w') :
    OwnM w' base hi (ms ++ qs) v' := by
  have hg := hG.grow
  have hbl : Below base w w' := hg.below h.le fun k e => (h.row.lt k e).1
  have st : StaysD (Rng 0 hi) w w' := fun k hk => hbl.block k (by have := hk.2; omega)
  refine ⟨by rw [mkCells_append, List.length_append]; exact hG.own, Nat.le_trans h.le hg.grown.size, fun p hp => ?_⟩
  have hp' : p.InD w base hi := by
    rcases List.mem_append.1 hp with hp | hp
    · exact h.kids p hp
    · exact hq p hp
  exact ⟨hp'.it.stays st, hp'.row.kept hG.grown (own_apart hp'.row h.row (by decide))⟩
theorem rm_app {w0 W w' : World} {base hi B : Nat} {ms qs : List Mk} {v v' : Value} (hw : w0.heap.size ≤ base) (hb : hi ≤ base) (h : OwnM W base hi ms v) (k : Bu (· = B) w0 W) (hq : ∀ m ∈ qs, m.InD W base hi) (hG : Grew W base 68 13 v ms.length (mkCells ms) qs.length (mkCells qs) v' w') :
    OwnM w' base hi (ms ++ qs) v' ∧ Bu (· = B) w0 w' := by
  refine ⟨h.grew hb hq hG, ⟨hG.grown.os.trans k.os, hG.grown.tape.trans k.tape, hG.grown.output.trans k.output, Nat.le_trans k.size hG.grown.size, fun i hi hn => (hG.grown.block i (Nat.lt_of_lt_of_le hi k.size) fun e => ?_).trans (k.block i hi hn)⟩⟩
  have := (h.row.lt i e.symm).1
  omega
end Go.Proofs.Ytnfkjmafhaecgaa

namespace Go.Proofs.Ytnfkjmafhaecgaa
open Go.RowKit
attribute [local go_sem] run_store_complex
def St.touches (s : St) : List ByteArray := if s.kind = 1 then s.e.names ++ [s.name] else if s.kind = 4 ∨ s.kind = 6 ∨ s.kind = 7 then s.e.names else if s.kind = 5 then [s.other] else []
end Go.Proofs.Ytnfkjmafhaecgaa

namespace Go.Proofs.Ytnfkjmafhaecgaa
open Go.RowKit
attribute [local go_sem] run_store_complex
theorem elemInt : ElemOf Try.prog 22 3 (.int .i64 0) 1 8 := ⟨Try.underlying22, by kernel_rfl, rfl, by decide⟩
end Go.Proofs.Ytnfkjmafhaecgaa
