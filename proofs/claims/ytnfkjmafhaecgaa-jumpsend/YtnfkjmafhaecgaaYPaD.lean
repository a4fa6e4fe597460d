/- PaD -/
import Derived.Test.YtnfkjmafhaecgaaYPaC

namespace Go.Proofs.Ytnfkjmafhaecgaa
open Go.RowKit
attribute [local go_sem] run_store_complex
attribute [local go_sem ↓] Go.wp_at_zero Go.wp_at_succ
abbrev z4 (k : Int) (X Y : Nat) : List Value := [.int .i64 k, .string ⟨#[]⟩, .int .i64 0, .complex .f64 X Y]
/-- What a declaration's reading leaves. -/
def EndD (R g cap : Nat) (s : ByteArray) (ts : List Lx.Tk) (d B : Nat) (w : World) (r : Option Dc) (m : List Lx.Core) (e : Ending) (w' : World) : Prop :=
  StepR R g cap s ts B w r m (fun x w' => AtB R g cap s ts d B w' m x.cells) e w'
section
variable {R g cap : Nat} {s : ByteArray} {ts : List Lx.Tk} {d B : Nat} {w w1 : World} {m : List Lx.Core}
theorem EndD.fail (hB : Bu (RB R B) w w1) (hR : ∃ d', Rd w1 R g cap s ts (ts.length - m.length) d') : EndD R g cap s ts d B w none m (.returned (.bool false)) w1 := ⟨rfl, hB, hR, fun x hx => by cases hx⟩
theorem EndD.done {x : Dc} (hB : Bu (RB R B) w w1) (hA : AtB R g cap s ts d B w1 m x.cells) : EndD R g cap s ts d B w (some x) m (.returned (.bool true)) w1 :=
  ⟨rfl, hB, ⟨d, hA.rd⟩, fun y hy => by injection hy with hy; subst hy; exact hA⟩
end
end Go.Proofs.Ytnfkjmafhaecgaa
namespace Go.Proofs.Ytnfkjmafhaecgaa
open Go.RowKit
attribute [local go_sem] run_store_complex
/-- The call owns the row v of threads; their statements lie in D. -/
structure OwnB (w : World) (base : Nat) (D : Nat → Prop) (ps : List (List St × Value)) (v : Value) : Prop where
  row : w.ownsRow base 34 1 v ps.length (ps.map (·.2))
  le : base ≤ w.heap.size
  kids : ∀ p ∈ ps, StsD w D p.1 p.2
theorem OwnB.kept {w w' : World} {base : Nat} {D : Nat → Prop} {ps : List (List St × Value)} {v : Value} (h : OwnB w base D ps v) (k : Kept w w') (hD : ∀ i, D i → i < w.heap.size) : OwnB w' base D ps v := by
  refine ⟨h.row.kept (Grow.kept (.slice none 0 0) k).grown ?_, Nat.le_trans h.le k.size, fun p hp => (h.kids p hp).stays fun i hi => k.block i (hD i hi)⟩
  cases hv : v.ownBlock <;> simp [Value.ownBlock]
theorem OwnB.base_le {w : World} {base : Nat} {D : Nat → Prop} {ps : List (List St × Value)} {v : Value} (h : OwnB w base D ps v) : ∀ k, v.ownBlock = some k → base ≤ k := fun k e => (h.row.lt k e).1
theorem OwnB.next {wr W w4 : World} {base : Nat} {ps : List (List St × Value)} {v v' : Value} {ss : List St} {x : Value} (h : OwnB wr base (Far base wr v) ps v) (k : Kept wr W) (hp : StsIn W wr.heap.size W.heap.size ss x) (hG : Grew W base 34 1 v ps.length (ps.map (·.2)) 1 [x] v' w4) :
    OwnB w4 base (Far base w4 v') (ps ++ [(ss, x)]) v' ∧ Grow wr w4 v v' := by
  have hz := k.size
  have hle := h.le
  have h1 : OwnB W base (Far base wr v) ps v := h.kept k fun i hi => hi.2.1
  have hg := hG.grow
  have sub : ∀ i, Far base wr v i → Far base W v i := fun i hi => ⟨hi.1, by have := hi.2.1; omega, hi.2.2⟩
  refine ⟨⟨?_, Nat.le_trans h1.le hg.grown.size, fun p hpm => ?_⟩, (Grow.kept v k).trans hg⟩
  · rw [List.map_append, List.length_append]; exact hG.own
  · rcases List.mem_append.1 hpm with hp' | hp'
    · exact (((h1.kids p hp').mono sub).stays (hg.stays base)).mono (hg.far base)
    · obtain rfl : p = (ss, x) := by simpa using hp'
      refine ((hp.mono (D' := Far base W v) fun i hi => ⟨by have := hi.1; omega, hi.2, fun e => ?_⟩).stays (hg.stays base)).mono (hg.far base)
      have := (h.row.lt i e.symm).2; have := hi.1; omega
theorem OwnB.ts {w : World} {base : Nat} {D D' : Nat → Prop} {ps : List (List St × Value)} {v : Value} (h : OwnB w base D ps v) (hD : ∀ k, D k → D' k) (hv : ∀ k, v.ownBlock = some k → D' k) : TsD w D' (ps.map (·.1)) v := by
  obtain ⟨a, cap, rfl, hs⟩ := own_slice h.row
  have hlen : (ps.map (·.1)).length = ps.length := List.length_map _
  refine ⟨a, cap, fun i => if h : i < ps.length then ps[i].2 else undef, by rw [hlen], by rw [hlen]; exact hs, ?_, ?_⟩
  · rw [hlen]
    intro i hi
    rcases h.row.2 with ⟨e, h0⟩ | ⟨g, cap', cur, e, hb, hh, h1, h2, h3, h4⟩
    · omega
    · cases e
      refine ⟨g, 0, rfl, hv g rfl, fun j => frozen_of_row w g j cur _ hh, fun j u hu => ?_⟩
      simp only [dif_pos hi] at hu
      have hj : j = 0 := by have := (List.getElem?_eq_some_iff.1 hu).1; simpa using this
      subst hj
      rw [cell_of_row w g _ cur _ (0, 0) hh, Nat.zero_add, Nat.mul_one, Nat.add_zero]
      have h5 : (ps.map (·.2))[i]? = some u := by rw [← hu]; simp [hi]
      rw [← h4, List.getElem?_take] at h5
      split at h5
      · simpa using h5
      · cases h5
  · intro i hi
    rw [hlen] at hi
    simp only [dif_pos hi, List.getElem_map]
    exact (h.kids _ (List.getElem_mem hi)).mono hD
theorem OwnB.nil (w : World) (base : Nat) (D : Nat → Prop) (h : base ≤ w.heap.size) : OwnB w base D [] (.slice none 0 0) := ⟨⟨rfl, .inl ⟨rfl, rfl⟩⟩, h, fun _ h => by cases h⟩
theorem OwnB.bu {M : Nat → Prop} {w w' : World} {base : Nat} {ps : List (List St × Value)} {v : Value} (h : OwnB w base (Far base w v) ps v) (b : Bu M w w') (hM : ∀ k, base ≤ k → k < w.heap.size → ¬ M k) : OwnB w' base (Far base w' v) ps v := by
  have hst : StaysD (Far base w v) w w' := fun k hk => b.block k hk.2.1 (hM k hk.1 hk.2.1)
  refine ⟨?_, Nat.le_trans h.le b.size, fun p hp => ((h.kids p hp).stays hst).mono fun k hk => ⟨hk.1, Nat.lt_of_lt_of_le hk.2.1 b.size, hk.2.2⟩⟩
  refine ⟨h.row.1, ?_⟩
  rcases h.row.2 with h0 | ⟨g, cap, cur, e, hb, hg, r⟩
  · exact .inl h0
  · have hlt : g < w.heap.size := by
      rcases Nat.lt_or_ge g w.heap.size with c | c
      · exact c
      · rw [Array.getElem?_eq_none (by omega)] at hg; cases hg
    exact .inr ⟨g, cap, cur, e, hb, (b.block g hlt (hM g hb hlt)).trans hg, r⟩
/-- The call owns the row v of declarations. -/
def dcs (l : List Dc) : List Value := l.flatMap Dc.cells
theorem dcs_append (l m : List Dc) : dcs (l ++ m) = dcs l ++ dcs m := by simp [dcs]
theorem dcs_one (p : Dc) : dcs [p] = p.cells := by simp [dcs]
theorem dcs_get (l : List Dc) : ∀ i (h : i < l.length) r, r < 4 → (dcs l)[i * 4 + r]? = l[i].cells[r]? := by
  induction l with
  | nil => intro i h; simp at h
  | cons p l ih =>
    intro i h r hr
    rw [show dcs (p :: l) = p.cells ++ dcs l from by simp [dcs]]
    have hl : p.cells.length = 4 := rfl
    cases i with
    | zero => rw [List.getElem?_append_left (by omega)]; simp
    | succ i =>
      rw [List.getElem?_append_right (by omega), hl, show (i + 1) * 4 + r - 4 = i * 4 + r by omega]
      rw [ih i (by simpa using h) r hr]; rfl
structure OwnD (w : World) (base : Nat) (l : List Dc) (v : Value) : Prop where
  row : w.ownsRow base 77 4 v l.length (dcs l)
  le : base ≤ w.heap.size
theorem OwnD.nil (w : World) (base : Nat) (h : base ≤ w.heap.size) : OwnD w base [] (.slice none 0 0) := ⟨⟨rfl, .inl ⟨rfl, rfl⟩⟩, h⟩
theorem OwnD.bu {M : Nat → Prop} {w w' : World} {base : Nat} {l : List Dc} {v : Value} (h : OwnD w base l v) (b : Bu M w w') (hM : ∀ k, base ≤ k → k < w.heap.size → ¬ M k) : OwnD w' base l v := by
  refine ⟨⟨h.row.1, ?_⟩, Nat.le_trans h.le b.size⟩
  rcases h.row.2 with h0 | ⟨g, cap, cur, e, hb, hg, r⟩
  · exact .inl h0
  · have hlt : g < w.heap.size := by
      rcases Nat.lt_or_ge g w.heap.size with c | c
      · exact c
      · rw [Array.getElem?_eq_none (by omega)] at hg; cases hg
    exact .inr ⟨g, cap, cur, e, hb, (b.block g hlt (hM g hb hlt)).trans hg, r⟩
theorem OwnD.ds {w : World} {base : Nat} {D' : Nat → Prop} {l : List Dc} {v : Value} (h : OwnD w base l v) (hv : ∀ k, v.ownBlock = some k → D' k) : DsD w D' l v := by
  obtain ⟨a, cap, rfl, hs⟩ := own_slice h.row
  refine ⟨a, cap, rfl, hs, ?_⟩
  intro i hi
  rcases h.row.2 with ⟨e, h0⟩ | ⟨g, cap', cur, e, hb, hh, h1, h2, h3, h4⟩
  · omega
  · cases e
    refine ⟨g, 0, rfl, hv g rfl, fun j => frozen_of_row w g j cur _ hh, fun j u hu => ?_⟩
    have hg : l.getD i dc0 = l[i] := by simp [List.getD, hi]
    simp only [hg] at hu
    have hj : j < 4 := by have := (List.getElem?_eq_some_iff.1 hu).1; exact this
    have hx := dcs_get l i hi j hj
    rw [cell_of_row w g _ cur _ (0, 0) hh, Nat.zero_add]
    have h5 : (dcs l)[i * 4 + j]? = some u := hx.trans hu
    rw [← h4, List.getElem?_take] at h5
    split at h5
    · simpa using h5
    · cases h5
/-- Where program stands among declarations. -/
structure PrD (R g cap : Nat) (s : ByteArray) (ts : List Lx.Tk) (P : Nat) (w0 wr : World) (l : List Lx.Core) (ds : List Dc) (v : Value) : Prop where
  at' : AtB R g cap s ts 0 P wr l [v, .slice none 0 0]
  own : OwnD wr w0.heap.size ds v
  bu : Bu (RB R P) w0 wr
  lR : R < w0.heap.size
  lP : P < w0.heap.size
  lg : g < w0.heap.size
/-- Where program stands among threads. -/
structure PrT (R g cap : Nat) (s : ByteArray) (ts : List Lx.Tk) (P : Nat) (w0 w1 wr : World) (l : List Lx.Core) (ds : List Dc) (dv : Value) (ps : List (List St × Value)) (v : Value) : Prop where
  at' : AtB R g cap s ts 0 P wr l [dv, v]
  own : OwnB wr w1.heap.size (Far w1.heap.size wr v) ps v
  ds : DsIn w1 w0.heap.size w1.heap.size ds dv
  bu : Bu (RB R P) w1 wr
  bu0 : Bu (RB R P) w0 w1
  lR : R < w0.heap.size
  lP : P < w0.heap.size
  lg : g < w0.heap.size
section
variable {R g cap : Nat} {s : ByteArray} {ts : List Lx.Tk} {P : Nat} {w0 w1 wr W wa : World} {l m : List Lx.Core}
/-- Behind a call that turned the reader and a new block alone. -/
theorem PrD.next {ds : List Dc} {v : Value} (h : PrD R g cap s ts P w0 wr l ds v) {B : Nat} (hB : wr.heap.size ≤ B) (b : Bu (RB R B) wr W) (rd : Rd W R g cap s ts (ts.length - m.length) 0) (hs : m <:+ l) (ha : Pp.Alive m) : PrD R g cap s ts P w0 W m ds v := by
  have hz := h.bu.size
  have hlP := h.at'.box.lt
  refine ⟨⟨rd, h.at'.suf hs, ha, h.at'.box.off (b.block P hlP fun c => c.elim h.at'.nR fun e => by omega) b.size, h.at'.nR, h.at'.ng⟩, h.own.bu b ?_, h.bu.then (b.up fun i hi c => c.elim .inl fun e => by omega), h.lR, h.lP, h.lg⟩
  rintro k h1 h2 (e | e)
  · have := h.lR; omega
  · omega
theorem PrD.grown {ds : List Dc} {v : Value} (h : PrD R g cap s ts P w0 wr l ds v) (k1 : Kept wr W) {d : Dc} {ad : Option Addr} {cp : Nat} (hG : Grew W w0.heap.size 77 4 v ds.length (dcs ds) 1 d.cells (.slice ad (ds.length + 1) cp) wa) :
    PrD R g cap s ts P w0 (wa.setCell ⟨P, 0, none⟩ (.slice ad (ds.length + 1) cp)) l (ds ++ [d]) (.slice ad (ds.length + 1) cp) := by
  have hown : ∀ k, some k = v.ownBlock → w0.heap.size ≤ k := fun k e => (h.own.row.lt k e.symm).1
  have hz := h.bu.size
  have hfar : ∀ k, k < wr.heap.size → some k ≠ v.ownBlock → wa.heap[k]? = wr.heap[k]? := fun k hk hn => (hG.grown.block k (by have := k1.size; omega) hn).trans (k1.block k hk)
  have e : ∀ k, k < w0.heap.size → wa.heap[k]? = wr.heap[k]? := fun k hk => hfar k (by omega) fun c => by have := hown k c; omega
  have hsz : wr.heap.size ≤ wa.heap.size := by have := hG.grown.size; have := k1.size; omega
  have bx : BoxS wa P [v, .slice none 0 0] := h.at'.box.off (e P h.lP) hsz
  have rd := h.at'.rd.off (e R h.lR) (e g h.lg) hsz
  refine ⟨⟨rd.put h.at'.nR h.at'.ng _, h.at'.eq, h.at'.al, bx.set 0 [.slice ad (ds.length + 1) cp] (by simp), h.at'.nR, h.at'.ng⟩, ?_, ?_, h.lR, h.lP, h.lg⟩
  · refine OwnD.bu (M := (· = P)) (w := wa) ⟨?_, by have := h.own.le; omega⟩ (Bu.set (M := (· = P)) (Bu.refl _ _) (.inl rfl) 0 _) fun k hk _ e => by have := h.lP; omega
    rw [dcs_append, dcs_one, List.length_append]; exact hG.own
  · refine Bu.set ⟨?_, ?_, ?_, by omega, fun k hk hn => (e k hk).trans (h.bu.block k hk hn)⟩ (.inl (.inr rfl)) 0 _
    · exact hG.grown.os.trans (k1.os.trans h.bu.os)
    · exact hG.grown.tape.trans (k1.tape.trans h.bu.tape)
    · exact hG.grown.output.trans (k1.output.trans h.bu.output)
theorem PrD.cellA {ds : List Dc} {v : Value} (h : PrD R g cap s ts P w0 wr l ds v) (k1 : Kept wr W) {cs : List Value} {v' : Value} (hG : Grew W w0.heap.size 77 4 v ds.length (dcs ds) 1 cs v' wa) : wa.cell? ⟨P, 0, none⟩ = some v ∧ wa.frozen? ⟨P, 0, none⟩ = false := by
  have hB : wa.heap[P]? = wr.heap[P]? := (hG.grown.block P (by have := k1.size; have := h.lP; have := h.bu.size; omega) fun c => by have := (h.own.row.lt P c.symm).1; have := h.lP; omega).trans (k1.block P h.at'.box.lt)
  rw [World.cell?_of_block (w := wr) (a := ⟨P, 0, none⟩) hB, World.frozen?_of_block (w := wr) (a := ⟨P, 0, none⟩) hB]
  exact ⟨h.at'.box.cell 0 rfl, h.at'.box.fz 0⟩
theorem PrT.next {ds : List Dc} {dv v : Value} {ps : List (List St × Value)} (h : PrT R g cap s ts P w0 w1 wr l ds dv ps v) {B : Nat} (hB : wr.heap.size ≤ B) (b : Bu (RB R B) wr W) (rd : Rd W R g cap s ts (ts.length - m.length) 0) (hs : m <:+ l) (ha : Pp.Alive m) : PrT R g cap s ts P w0 w1 W m ds dv ps v := by
  have hz := h.bu.size
  have hz0 := h.bu0.size
  have hlP := h.at'.box.lt
  refine ⟨⟨rd, h.at'.suf hs, ha, h.at'.box.off (b.block P hlP fun c => c.elim h.at'.nR fun e => by omega) b.size, h.at'.nR, h.at'.ng⟩, h.own.bu b ?_, h.ds, h.bu.then (b.up fun i hi c => c.elim .inl fun e => by omega), h.bu0, h.lR, h.lP, h.lg⟩
  rintro k h1 h2 (e | e)
  · have := h.lR; omega
  · omega
theorem PrT.far {ds : List Dc} {dv v : Value} {ps : List (List St × Value)} (h : PrT R g cap s ts P w0 w1 wr l ds dv ps v) (k1 : Kept wr W) {cs : List Value} {v' : Value} (hG : Grew W w1.heap.size 34 1 v ps.length (ps.map (·.2)) 1 cs v' wa) {k : Nat} (hk : k < w1.heap.size) : wa.heap[k]? = wr.heap[k]? := by
  have hz := h.bu.size
  exact (hG.grown.block k (by have := k1.size; omega) fun c => by have := (h.own.row.lt k c.symm).1; omega).trans (k1.block k (by omega))
theorem PrT.cellA {ds : List Dc} {dv v : Value} {ps : List (List St × Value)} (h : PrT R g cap s ts P w0 w1 wr l ds dv ps v) (k1 : Kept wr W) {cs : List Value} {v' : Value} (hG : Grew W w1.heap.size 34 1 v ps.length (ps.map (·.2)) 1 cs v' wa) : wa.cell? ⟨P, 1, none⟩ = some v ∧ wa.frozen? ⟨P, 1, none⟩ = false := by
  have hB := h.far k1 hG (k := P) (by have := h.lP; have := h.bu0.size; omega)
  rw [World.cell?_of_block (w := wr) (a := ⟨P, 1, none⟩) hB, World.frozen?_of_block (w := wr) (a := ⟨P, 1, none⟩) hB]
  exact ⟨h.at'.box.cell 1 rfl, h.at'.box.fz 1⟩
theorem PrT.grown {ds : List Dc} {dv v : Value} {ps : List (List St × Value)} (h : PrT R g cap s ts P w0 w1 wr l ds dv ps v) (k1 : Kept wr W) {b : List St} {x : Value} (hb : StsD wr (Far w1.heap.size wr v) b x) {ad : Option Addr} {cp : Nat} (hG : Grew W w1.heap.size 34 1 v ps.length (ps.map (·.2)) 1 [x] (.slice ad (ps.length + 1) cp) wa) :
    PrT R g cap s ts P w0 w1 (wa.setCell ⟨P, 1, none⟩ (.slice ad (ps.length + 1) cp)) l ds dv (ps ++ [(b, x)]) (.slice ad (ps.length + 1) cp) := by
  have hz := h.bu.size
  have hz0 := h.bu0.size
  have e : ∀ k, k < w1.heap.size → wa.heap[k]? = wr.heap[k]? := fun k hk => h.far k1 hG hk
  have hsz : wr.heap.size ≤ wa.heap.size := by have := hG.grown.size; have := k1.size; omega
  have bx : BoxS wa P [dv, v] := h.at'.box.off (e P (by have := h.lP; omega)) hsz
  have rd := h.at'.rd.off (e R (by have := h.lR; omega)) (e g (by have := h.lg; omega)) hsz
  have hg := hG.grow
  have hW : OwnB W w1.heap.size (Far w1.heap.size W v) ps v := h.own.bu (M := fun _ => False) (Bu.of k1) fun _ _ _ c => c
  refine ⟨⟨rd.put h.at'.nR h.at'.ng _, h.at'.eq, h.at'.al, bx.set 1 [.slice ad (ps.length + 1) cp] (by simp), h.at'.nR, h.at'.ng⟩, ?_, h.ds, ?_, h.bu0, h.lR, h.lP, h.lg⟩
  · refine OwnB.bu (M := (· = P)) (w := wa) ⟨?_, by have := h.own.le; omega, fun p hp => ?_⟩ (Bu.set (M := (· = P)) (Bu.refl _ _) (.inl rfl) 1 _) fun k hk _ e => by have := h.lP; omega
    · rw [List.map_append, List.length_append]; exact hG.own
    · rcases List.mem_append.1 hp with hp | hp
      · exact ((hW.kids p hp).stays (hg.stays w1.heap.size)).mono (hg.far w1.heap.size)
      · obtain rfl : p = (b, x) := by simpa using hp
        have hb1 : StsD W (Far w1.heap.size W v) b x := (hb.stays fun k hk => k1.block k hk.2.1).mono fun k hk => ⟨hk.1, Nat.lt_of_lt_of_le hk.2.1 k1.size, hk.2.2⟩
        exact (hb1.stays (hg.stays w1.heap.size)).mono (hg.far w1.heap.size)
  · refine Bu.set ⟨?_, ?_, ?_, by omega, fun k hk hn => (e k hk).trans (h.bu.block k hk hn)⟩ (.inl (.inr rfl)) 1 _
    · exact hG.grown.os.trans (k1.os.trans h.bu.os)
    · exact hG.grown.tape.trans (k1.tape.trans h.bu.tape)
    · exact hG.grown.output.trans (k1.output.trans h.bu.output)
end
end Go.Proofs.Ytnfkjmafhaecgaa
