/- PaD Pm Po -/
import Derived.Test.YtnfkjmafhaecgaaTRt9
import Derived.Deep.RegionWith
import Derived.Laws.ResultCell

namespace Go.Proofs.Ytnfkjmafhaecgaa
open Go.RowKit
attribute [local go_sem] run_store_complex
attribute [local go_sem ↓] Go.wp_at_zero Go.wp_at_succ
abbrev z4 (k : Int) (X Y : Nat) : List Value := [.int .i64 k, .string ⟨#[]⟩, .int .i64 0, .complex .f64 X Y]
section
variable {R g cap : Nat} {s : ByteArray} {ts : List Lx.Tk} {d B : Nat} {w w1 : World} {m : List Lx.Core}
end
end Go.Proofs.Ytnfkjmafhaecgaa
namespace Go.Proofs.Ytnfkjmafhaecgaa
open Go.RowKit
attribute [local go_sem] run_store_complex
structure OwnB (w : World) (base : Nat) (D : Nat → Prop) (ps : List (List St × Value)) (v : Value) : Prop where
  row : w.ownsRow base 34 1 v ps.length (ps.map (·.2))
  le : base ≤ w.heap.size
  kids : ∀ p ∈ ps, StsD w D p.1 p.2
theorem OwnB.kept {w w' : World} {base : Nat} {D : Nat → Prop} {ps : List (List St × Value)} {v : Value} (h : OwnB w base D ps v) (k : Kept w w') (hD : ∀ i, D i → i < w.heap.size) : OwnB w' base D ps v := by
  refine ⟨h.row.kept (Grow.kept (.slice none 0 0) k).grown ?_, Nat.le_trans h.le k.size, fun p hp => (h.kids p hp).stays fun i hi => k.block i (hD i hi)⟩
  cases hv : v.ownBlock <;> simp [Value.ownBlock]
theorem OwnB.base_le {w : World} {base : Nat} {D : Nat → Prop} {ps : List (List St × Value)} {v : Value} (h : OwnB w base D ps v) : ∀ k, v.ownBlock = some k → base ≤ k := fun k e => (h.row.lt k e).1
theorem OwnB.low {w : World} {base g : Nat} {ps : List (List St × Value)} {v : Value} (h : OwnB w base (Far base w v) ps v) (hg : g < base) (o : Nat) (x : Value) : OwnB (w.setCell ⟨g, o, none⟩ x) base (Far base (w.setCell ⟨g, o, none⟩ x) v) ps v := by
  have hz : (w.setCell ⟨g, o, none⟩ x).heap.size = w.heap.size := by simp [World.setCell]
  refine ⟨?_, by rw [hz]; exact h.le, fun p hp => ((h.kids p hp).stays fun i hi => Below.heap_setCell w _ x i (by have := hi.1; show i ≠ g; omega)).mono fun i hi => ⟨hi.1, by rw [hz]; exact hi.2.1, hi.2.2⟩⟩
  have hr := h.row
  refine ⟨hr.1, ?_⟩
  rcases hr.2 with e | ⟨g', cap, cur, e, hb, hh, r⟩
  · exact .inl e
  · exact .inr ⟨g', cap, cur, e, hb, by rw [Below.heap_setCell w _ x g' (by show g' ≠ g; omega)]; exact hh, r⟩
theorem OwnB.next {wr W w4 : World} {base : Nat} {ps : List (List St × Value)} {v v' : Value} {ss : List St} {x : Value} (h : OwnB wr base (Far base wr v) ps v) (k : Kept wr W) (hp : StsIn W wr.heap.size W.heap.size ss x) (hG : Grew W base 34 1 v ps.length (ps.map (·.2)) 1 [x] v' w4) :
    OwnB w4 base (Far base w4 v') (ps ++ [(ss, x)]) v' ∧ Grow wr w4 v v' := by
  have hz := k.size
  have hle := h.le
  have h1 : OwnB W base (Far base wr v) ps v := h.kept k fun i hi => hi.2.1
  have hg := hG.grow
  have sub : ∀ i, Far base wr v i → Far base W v i := fun i hi => ⟨hi.1, by have := hi.2.1; omega, hi.2.2⟩
  refine ⟨⟨?_, Nat.le_trans h1.le hg.grown.size, fun p hpm => ?_⟩, (Grow.kept v k).trans hg⟩
  · rw [List.map_append, List.length_append]; exact hG.own
  · rcases List.mem_append.1 hpm with hp' | hp'
    · exact (((h1.kids p hp').mono sub).stays (hg.stays base)).mono (hg.far base)
    · obtain rfl : p = (ss, x) := by simpa using hp'
      refine ((hp.mono (D' := Far base W v) fun i hi => ⟨by have := hi.1; omega, hi.2, fun e => ?_⟩).stays (hg.stays base)).mono (hg.far base)
      have := (h.row.lt i e.symm).2; have := hi.1; omega
theorem OwnB.ts {w : World} {base : Nat} {D D' : Nat → Prop} {ps : List (List St × Value)} {v : Value} (h : OwnB w base D ps v) (hD : ∀ k, D k → D' k) (hv : ∀ k, v.ownBlock = some k → D' k) : TsD w D' (ps.map (·.1)) v := by
  obtain ⟨a, cap, rfl, hs⟩ := own_slice h.row
  have hlen : (ps.map (·.1)).length = ps.length := List.length_map _
  refine ⟨a, cap, fun i => if h : i < ps.length then ps[i].2 else undef, by rw [hlen], by rw [hlen]; exact hs, ?_, ?_⟩
  · rw [hlen]
    intro i hi
    rcases h.row.2 with ⟨e, h0⟩ | ⟨g, cap', cur, e, hb, hh, h1, h2, h3, h4⟩
    · omega
    · cases e
      refine ⟨g, 0, rfl, hv g rfl, fun j => frozen_of_row w g j cur _ hh, fun j u hu => ?_⟩
      simp only [dif_pos hi] at hu
      have hj : j = 0 := by have := (List.getElem?_eq_some_iff.1 hu).1; simpa using this
      subst hj
      rw [cell_of_row w g _ cur _ (0, 0) hh, Nat.zero_add, Nat.mul_one, Nat.add_zero]
      have h5 : (ps.map (·.2))[i]? = some u := by rw [← hu]; simp [hi]
      rw [← h4, List.getElem?_take] at h5
      split at h5
      · simpa using h5
      · cases h5
  · intro i hi
    rw [hlen] at hi
    simp only [dif_pos hi, List.getElem_map]
    exact (h.kids _ (List.getElem_mem hi)).mono hD
theorem OwnB.nil (w : World) (base : Nat) (D : Nat → Prop) (h : base ≤ w.heap.size) : OwnB w base D [] (.slice none 0 0) := ⟨⟨rfl, .inl ⟨rfl, rfl⟩⟩, h, fun _ h => by cases h⟩
theorem OwnB.bu {M : Nat → Prop} {w w' : World} {base : Nat} {ps : List (List St × Value)} {v : Value} (h : OwnB w base (Far base w v) ps v) (b : Bu M w w') (hM : ∀ k, base ≤ k → k < w.heap.size → ¬ M k) : OwnB w' base (Far base w' v) ps v := by
  have hst : StaysD (Far base w v) w w' := fun k hk => b.block k hk.2.1 (hM k hk.1 hk.2.1)
  refine ⟨?_, Nat.le_trans h.le b.size, fun p hp => ((h.kids p hp).stays hst).mono fun k hk => ⟨hk.1, Nat.lt_of_lt_of_le hk.2.1 b.size, hk.2.2⟩⟩
  refine ⟨h.row.1, ?_⟩
  rcases h.row.2 with h0 | ⟨g, cap, cur, e, hb, hg, r⟩
  · exact .inl h0
  · have hlt : g < w.heap.size := by
      rcases Nat.lt_or_ge g w.heap.size with c | c
      · exact c
      · rw [Array.getElem?_eq_none (by omega)] at hg; cases hg
    exact .inr ⟨g, cap, cur, e, hb, (b.block g hlt (hM g hb hlt)).trans hg, r⟩
def dcs (l : List Dc) : List Value := l.flatMap Dc.cells
theorem dcs_append (l m : List Dc) : dcs (l ++ m) = dcs l ++ dcs m := by simp [dcs]
theorem dcs_one (p : Dc) : dcs [p] = p.cells := by simp [dcs]
theorem dcs_get (l : List Dc) : ∀ i (h : i < l.length) r, r < 4 → (dcs l)[i * 4 + r]? = l[i].cells[r]? := by
  induction l with
  | nil => intro i h; simp at h
  | cons p l ih =>
    intro i h r hr
    rw [show dcs (p :: l) = p.cells ++ dcs l from by simp [dcs]]
    have hl : p.cells.length = 4 := rfl
    cases i with
    | zero => rw [List.getElem?_append_left (by omega)]; simp
    | succ i =>
      rw [List.getElem?_append_right (by omega), hl, show (i + 1) * 4 + r - 4 = i * 4 + r by omega]
      rw [ih i (by simpa using h) r hr]; rfl
structure OwnD (w : World) (base : Nat) (l : List Dc) (v : Value) : Prop where
  row : w.ownsRow base 77 4 v l.length (dcs l)
  le : base ≤ w.heap.size
theorem OwnD.nil (w : World) (base : Nat) (h : base ≤ w.heap.size) : OwnD w base [] (.slice none 0 0) := ⟨⟨rfl, .inl ⟨rfl, rfl⟩⟩, h⟩
theorem OwnD.bu {M : Nat → Prop} {w w' : World} {base : Nat} {l : List Dc} {v : Value} (h : OwnD w base l v) (b : Bu M w w') (hM : ∀ k, base ≤ k → k < w.heap.size → ¬ M k) : OwnD w' base l v := by
  refine ⟨⟨h.row.1, ?_⟩, Nat.le_trans h.le b.size⟩
  rcases h.row.2 with h0 | ⟨g, cap, cur, e, hb, hg, r⟩
  · exact .inl h0
  · have hlt : g < w.heap.size := by
      rcases Nat.lt_or_ge g w.heap.size with c | c
      · exact c
      · rw [Array.getElem?_eq_none (by omega)] at hg; cases hg
    exact .inr ⟨g, cap, cur, e, hb, (b.block g hlt (hM g hb hlt)).trans hg, r⟩
theorem OwnD.ds {w : World} {base : Nat} {D' : Nat → Prop} {l : List Dc} {v : Value} (h : OwnD w base l v) (hv : ∀ k, v.ownBlock = some k → D' k) : DsD w D' l v := by
  obtain ⟨a, cap, rfl, hs⟩ := own_slice h.row
  refine ⟨a, cap, rfl, hs, ?_⟩
  intro i hi
  rcases h.row.2 with ⟨e, h0⟩ | ⟨g, cap', cur, e, hb, hh, h1, h2, h3, h4⟩
  · omega
  · cases e
    refine ⟨g, 0, rfl, hv g rfl, fun j => frozen_of_row w g j cur _ hh, fun j u hu => ?_⟩
    have hg : l.getD i dc0 = l[i] := by simp [List.getD, hi]
    simp only [hg] at hu
    have hj : j < 4 := by have := (List.getElem?_eq_some_iff.1 hu).1; exact this
    have hx := dcs_get l i hi j hj
    rw [cell_of_row w g _ cur _ (0, 0) hh, Nat.zero_add]
    have h5 : (dcs l)[i * 4 + j]? = some u := hx.trans hu
    rw [← h4, List.getElem?_take] at h5
    split at h5
    · simpa using h5
    · cases h5
section
variable {R g cap : Nat} {s : ByteArray} {ts : List Lx.Tk} {P : Nat} {w0 w1 wr W wa : World} {l m : List Lx.Core}
end
end Go.Proofs.Ytnfkjmafhaecgaa

namespace Go.Proofs.Ytnfkjmafhaecgaa
open Go.RowKit
attribute [local go_sem] run_store_complex
attribute [local go_sem ↓] Go.wp_at_zero Go.wp_at_succ
theorem esizePr : (Try.prog.info? 27).map (·.size) = some 2 := by kernel_rfl
def W2 (w : World) : World := (w.alloc (.cells #[.slice none 0 0, .slice none 0 0] 27)).alloc (.cells #[.slice none 0 0, .slice none 0 0] 27)
end Go.Proofs.Ytnfkjmafhaecgaa

namespace Go.Proofs.Ytnfkjmafhaecgaa
open Go.RowKit
attribute [local go_sem] run_store_complex
theorem toks_alive {l : List UInt8} {ts : List Lx.Tk} (h : Lx.toks l = .good ts) : Pp.Alive (ts.map Lx.Tk.core) := by
  obtain ⟨t, ht, h4⟩ := Px.toks_end h
  exact ⟨t.core, List.mem_map_of_mem ht, h4, (Lx.toks_fit _ _ h t ht).2.1 h4⟩
def Pp.out (s : ByteArray) : Option (List Dc × List (List St)) × Nat :=
  match Lx.toks s.data.toList with
  | .bad q => (none, q)
  | .good ts => ((Pp.prog (plOf s ts) (ts.map Lx.Tk.core)).1, (ts.getD (ts.length - (Pp.prog (plOf s ts) (ts.map Lx.Tk.core)).2.length) ⟨0, 0, [], 0⟩).at')
theorem Pp.out_bad {s : ByteArray} {q : Nat} (h : Lx.toks s.data.toList = .bad q) : Pp.out s = (none, q) := by unfold Pp.out; rw [h]
theorem Pp.out_good {s : ByteArray} {ts : List Lx.Tk} {r : Option (List Dc × List (List St))} {m : List Lx.Core} (h : Lx.toks s.data.toList = .good ts) (hr : Pp.prog (plOf s ts) (ts.map Lx.Tk.core) = (r, m)) : Pp.out s = (r, (ts.getD (ts.length - m.length) ⟨0, 0, [], 0⟩).at') := by unfold Pp.out; rw [h]; simp only [hr]
theorem ret_read3 {fn : Func} {p u v : Tmp} (h : fn.results = #[.cell p 27, .tmp u, .tmp v]) (tmps : Array Value) {w : World} {B : Nat} {x y z1 z2 : Value} (hp : tmps.getD p undef = .pointer (some ⟨B, 0, none⟩)) (hu : tmps.getD u undef = z1) (hv : tmps.getD v undef = z2) (hB : w.rangeAt B 0 [x, y]) :
    (results fn tmps).run Try.prog w = .ok (.tuple #[.agg #[x, y], z1, z2]) w := by
  rw [results_cell_tmp2 h, hp, hu, hv]
  have := run_loadVar_mid (P := Try.prog) w B 0 27 _ _ hB Try.underlying27 rfl esizePr
  simp [asAddr, Result.andThen, this]
def Wz (w : World) : World := w.alloc (.cells #[.slice none 0 0, .slice none 0 0] 27)
theorem Wz_kept (w : World) : Kept w (Wz w) := (Kept.refl _).al _
theorem Wz_size (w : World) : (Wz w).heap.size = w.heap.size + 1 := by unfold Wz; simp
theorem Wz_box (w : World) : BoxS (Wz w) w.heap.size [.slice none 0 0, .slice none 0 0] := by
  unfold Wz
  refine ⟨fun j v hv => ?_, fun j => by simp, by simp⟩
  rw [Nat.zero_add]
  match j, hv with
  | 0, hv => cases hv; simp
  | 1, hv => cases hv; simp
end Go.Proofs.Ytnfkjmafhaecgaa
