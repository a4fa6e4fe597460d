/- Bs -/
import Derived.Test.YtnfkjmafhaecgaaRows
import Derived.Test.YtnfkjmafhaecgaaYKpA
import Derived.WalkKit
import Derived.WalkSpells
import Derived.WalkLawsBesides

namespace Go.Proofs.Ytnfkjmafhaecgaa
open Go.RowKit
theorem elemSt : ElemOf Try.prog 34 46 (.agg #[.int .i64 0, .string ⟨#[]⟩, .string ⟨#[]⟩, .int .i64 0, .int .i64 0, .int .i64 0, .string ⟨#[]⟩, .slice none 0 0, .slice none 0 0, .slice none 0 0, .complex .f64 0 0]) 11 168 := ⟨Try.underlying34, by kernel_rfl, rfl, by decide⟩
theorem elemTs : ElemOf Try.prog 25 34 (.slice none 0 0) 1 24 := ⟨Try.underlying25, by kernel_rfl, rfl, by decide⟩
theorem elemDc : ElemOf Try.prog 24 77 (.agg #[.int .i64 0, .string ⟨#[]⟩, .int .i64 0, .complex .f64 0 0]) 4 48 := ⟨Try.underlying24, by kernel_rfl, rfl, by decide⟩
namespace St
theorem cells_one (s : St) (a b c : Option Addr) (n m k q r u : Nat) : ∀ x ∈ s.cells (.slice a n q) (.slice b m r) (.slice c k u), x.oneCell' = true := by
  intro x hx
  simp [St.cells] at hx
  rcases hx with rfl | rfl | rfl | rfl | rfl | rfl | rfl | rfl | rfl | rfl | rfl <;> rfl
end St
/-- A statement, and where what it is of lies. -/
structure Item where
  s : St
  ev : Value
  bv : Value
  lv : Value
def Item.cells (p : Item) : List Value := p.s.cells p.ev p.bv p.lv
structure Item.InD (w : World) (D : Nat → Prop) (p : Item) : Prop where
  e : ExsD w D p.s.e.of p.ev
  b : StsD w D p.s.body p.bv
  l : StsD w D p.s.els p.lv
theorem Item.InD.stays {w w' : World} {D : Nat → Prop} {p : Item} (h : p.InD w D) (hs : StaysD D w w') : p.InD w' D := ⟨h.e.stays hs, h.b.stays hs, h.l.stays hs⟩
theorem Item.InD.mono {w : World} {D D' : Nat → Prop} {p : Item} (h : p.InD w D) (hs : ∀ k, D k → D' k) : p.InD w D' := ⟨h.e.mono hs, h.b.mono hs, h.l.mono hs⟩
theorem Item.InD.one {w : World} {D : Nat → Prop} {p : Item} (h : p.InD w D) : ∀ u ∈ p.cells, u.oneCell' = true := by
  obtain ⟨a1, n1, q1, e1⟩ := h.e.form
  obtain ⟨a2, n2, q2, e2⟩ := h.b.form
  obtain ⟨a3, n3, q3, e3⟩ := h.l.form
  unfold Item.cells
  rw [e1, e2, e3]
  exact St.cells_one _ _ _ _ _ _ _ _ _ _
def itCells (ps : List Item) : List Value := ps.flatMap Item.cells
theorem itCells_append (ps qs : List Item) : itCells (ps ++ qs) = itCells ps ++ itCells qs := by simp [itCells]
theorem itCells_one (p : Item) : itCells [p] = p.cells := by simp [itCells]
theorem itCells_len (ps : List Item) : (itCells ps).length = ps.length * 11 := by
  induction ps with
  | nil => rfl
  | cons p ps ih =>
    rw [show itCells (p :: ps) = p.cells ++ itCells ps from by simp [itCells], List.length_append, ih, List.length_cons, Nat.add_mul]
    have : p.cells.length = 11 := rfl
    omega
theorem itCells_get (ps : List Item) : ∀ i (h : i < ps.length) r, r < 11 → (itCells ps)[i * 11 + r]? = ps[i].cells[r]? := by
  induction ps with
  | nil => intro i h; simp at h
  | cons p ps ih =>
    intro i h r hr
    rw [show itCells (p :: ps) = p.cells ++ itCells ps from by simp [itCells]]
    have hl : p.cells.length = 11 := rfl
    cases i with
    | zero => rw [List.getElem?_append_left (by omega)]; simp
    | succ i =>
      rw [List.getElem?_append_right (by omega), hl, show (i + 1) * 11 + r - 11 = i * 11 + r by omega]
      rw [ih i (by simpa using h) r hr]; rfl
theorem itCells_one' {w : World} {D : Nat → Prop} (ps : List Item) (h : ∀ p ∈ ps, p.InD w D) : ∀ u ∈ itCells ps, u.oneCell' = true := by
  intro u hu
  simp only [itCells, List.mem_flatMap] at hu
  obtain ⟨p, hp, hu⟩ := hu
  exact (h p hp).one u hu
/-- The call owns the row v, whose items are ps; what they are of lies in D. -/
structure OwnK (w : World) (base : Nat) (D : Nat → Prop) (ps : List Item) (v : Value) : Prop where
  row : w.ownsRow base 46 11 v ps.length (itCells ps)
  le : base ≤ w.heap.size
  kids : ∀ p ∈ ps, p.InD w D
/-- From lo on, but for the row v's own block. -/
abbrev Far (lo : Nat) (w : World) (v : Value) : Nat → Prop := fun k => lo ≤ k ∧ k < w.heap.size ∧ some k ≠ v.ownBlock
/-- The world has grown, and nothing has turned but the row v, which is now v'. -/
structure Grow (w w' : World) (v v' : Value) : Prop where
  grown : w.grownBy w' v.ownBlock
  lies : v'.ownBlock = v.ownBlock ∨ ∃ g, v'.ownBlock = some g ∧ w.heap.size ≤ g
theorem Grow.refl (w : World) (v : Value) : Grow w w v v := ⟨⟨rfl, rfl, rfl, Nat.le_refl _, fun _ _ _ => rfl⟩, .inl rfl⟩
theorem Grow.kept {w w' : World} (v : Value) (h : Kept w w') : Grow w w' v v := ⟨⟨h.os, h.tape, h.output, h.size, fun k hk _ => h.block k hk⟩, .inl rfl⟩
theorem Grow.off {w w' : World} {v v' : Value} (h : Grow w w' v v') {k : Nat} (hk : k < w.heap.size) (hn : some k ≠ v.ownBlock) : some k ≠ v'.ownBlock := by
  rcases h.lies with e | ⟨g, e, hg⟩
  · rw [e]; exact hn
  · rw [e]; intro h; cases h; omega
theorem Grow.trans {a b c : World} {u v x : Value} (h : Grow a b u v) (k : Grow b c v x) : Grow a c u x := by
  have hz := h.grown.size
  refine ⟨⟨k.grown.os.trans h.grown.os, k.grown.tape.trans h.grown.tape, k.grown.output.trans h.grown.output, Nat.le_trans hz k.grown.size, fun i hi hn => ?_⟩, ?_⟩
  · rw [k.grown.block i (by omega) (h.off hi hn)]; exact h.grown.block i hi hn
  · rcases k.lies with e | ⟨g, e, hg⟩
    · rcases h.lies with e' | ⟨g, e', hg⟩
      · exact .inl (e.trans e')
      · exact .inr ⟨g, e.trans e', hg⟩
    · exact .inr ⟨g, e, by omega⟩
theorem Grow.stays {w w' : World} {v v' : Value} (h : Grow w w' v v') (lo : Nat) : StaysD (Far lo w v) w w' := fun k hk => h.grown.block k hk.2.1 hk.2.2
theorem Grow.far {w w' : World} {v v' : Value} (h : Grow w w' v v') (lo : Nat) : ∀ k, Far lo w v k → Far lo w' v' k := fun _ hk => ⟨hk.1, Nat.lt_of_lt_of_le hk.2.1 h.grown.size, h.off hk.2.1 hk.2.2⟩
theorem Grow.below {w w' : World} {v v' : Value} (h : Grow w w' v v') {B : Nat} (hB : B ≤ w.heap.size) (hv : ∀ k, v.ownBlock = some k → B ≤ k) : Below B w w' :=
  ⟨h.grown.os, h.grown.tape, h.grown.output, h.grown.size, fun k hk => h.grown.block k (by omega) fun e => by have := hv k e.symm; omega⟩
theorem OwnK.kept {w w' : World} {base : Nat} {D : Nat → Prop} {ps : List Item} {v : Value} (h : OwnK w base D ps v) (k : Kept w w') (hD : ∀ i, D i → i < w.heap.size) : OwnK w' base D ps v := by
  refine ⟨h.row.kept (Grow.kept (.slice none 0 0) k).grown ?_, Nat.le_trans h.le k.size, fun p hp => (h.kids p hp).stays fun i hi => k.block i (hD i hi)⟩
  cases hv : v.ownBlock <;> simp [Value.ownBlock]
theorem OwnK.mono {w : World} {base : Nat} {D D' : Nat → Prop} {ps : List Item} {v : Value} (h : OwnK w base D ps v) (k : ∀ i, D i → D' i) : OwnK w base D' ps v := ⟨h.row, h.le, fun p hp => (h.kids p hp).mono k⟩
theorem OwnK.nil (w : World) (D : Nat → Prop) : OwnK w w.heap.size D [] (.slice none 0 0) := ⟨⟨rfl, .inl ⟨rfl, rfl⟩⟩, Nat.le_refl _, fun _ h => by cases h⟩
theorem OwnK.base_le {w : World} {base : Nat} {D : Nat → Prop} {ps : List Item} {v : Value} (h : OwnK w base D ps v) : ∀ k, v.ownBlock = some k → base ≤ k := fun k e => (h.row.lt k e).1
theorem Grew.grow {w : World} {base e size : Nat} {v : Value} {n : Nat} {xs : List Value} {m : Nat} {news : List Value} {v' : Value} {w' : World} (h : Grew w base e size v n xs m news v' w') : Grow w w' v v' :=
  ⟨h.grown, h.lies.imp id fun e => ⟨_, e, Nat.le_refl _⟩⟩
/-- Behind an append of items to a row whose items' parts lie anywhere but in the row itself. -/
theorem OwnK.grewFar {w w' : World} {lo base : Nat} {ps qs : List Item} {v v' : Value} (h : OwnK w base (Far lo w v) ps v) (hq : ∀ p ∈ qs, p.InD w (Far lo w v)) (hG : Grew w base 46 11 v ps.length (itCells ps) qs.length (itCells qs) v' w') :
    OwnK w' base (Far lo w' v') (ps ++ qs) v' := by
  have hg := hG.grow
  refine ⟨by rw [itCells_append, List.length_append]; exact hG.own, Nat.le_trans h.le hg.grown.size, fun p hp => ?_⟩
  rcases List.mem_append.1 hp with hp | hp
  · exact ((h.kids p hp).stays (hg.stays lo)).mono (hg.far lo)
  · exact ((hq p hp).stays (hg.stays lo)).mono (hg.far lo)
/-- Behind an append of items whose parts lie below the row's base. -/
theorem OwnK.grewLow {w w' : World} {hi base : Nat} {ps qs : List Item} {v v' : Value} (h : OwnK w base (Rng 0 hi) ps v) (hb : hi ≤ base) (hq : ∀ p ∈ qs, p.InD w (Rng 0 hi)) (hG : Grew w base 46 11 v ps.length (itCells ps) qs.length (itCells qs) v' w') :
    OwnK w' base (Rng 0 hi) (ps ++ qs) v' := by
  have hg := hG.grow
  have hbl : Below base w w' := hg.below h.le h.base_le
  have st : StaysD (Rng 0 hi) w w' := fun k hk => hbl.block k (by have := hk.2; omega)
  refine ⟨by rw [itCells_append, List.length_append]; exact hG.own, Nat.le_trans h.le hg.grown.size, fun p hp => ?_⟩
  rcases List.mem_append.1 hp with hp | hp
  · exact (h.kids p hp).stays st
  · exact (hq p hp).stays st
/-- The list that it is, as statements in memory. -/
theorem OwnK.sts {w : World} {base : Nat} {D D' : Nat → Prop} {ps : List Item} {v : Value} (h : OwnK w base D ps v) (hD : ∀ k, D k → D' k) (hv : ∀ k, v.ownBlock = some k → D' k) : StsD w D' (ps.map (·.s)) v := by
  obtain ⟨a, cap, rfl, hs⟩ := own_slice h.row
  have hlen : (ps.map (·.s)).length = ps.length := List.length_map _
  have hg : ∀ i (hi : i < ps.length), ((ps.map (·.s)).getD i st0) = ps[i].s := fun i hi => by simp [List.getD, hi]
  have key : StsD w D' (ps.map (·.s)) (.slice a (ps.map (·.s)).length cap) := by
    refine .mk _ a cap (fun i => if h : i < ps.length then ps[i].ev else undef) (fun i => if h : i < ps.length then ps[i].bv else undef) (fun i => if h : i < ps.length then ps[i].lv else undef) (by rw [hlen]; exact hs) ?_ ?_ ?_ ?_
    · rw [hlen]
      intro i hi
      rcases h.row.2 with ⟨e, h0⟩ | ⟨g, cap', cur, e, hb, hh, h1, h2, h3, h4⟩
      · omega
      · cases e
        refine ⟨g, 0, rfl, hv g rfl, fun j => frozen_of_row w g j cur _ hh, fun j u hu => ?_⟩
        simp only [hg i hi, dif_pos hi] at hu
        have hj : j < 11 := by have := (List.getElem?_eq_some_iff.1 hu).1; exact this
        have hx := itCells_get ps i hi j hj
        rw [cell_of_row w g _ cur _ (0, 0) hh, Nat.zero_add]
        have h5 : (itCells ps)[i * 11 + j]? = some u := hx.trans hu
        rw [← h4, List.getElem?_take] at h5
        split at h5
        · simpa using h5
        · cases h5
    · intro i hi
      rw [hlen] at hi
      simp only [dif_pos hi, List.getElem_map]
      exact ((h.kids _ (List.getElem_mem hi)).e).mono hD
    · intro i hi
      rw [hlen] at hi
      simp only [dif_pos hi, List.getElem_map]
      exact ((h.kids _ (List.getElem_mem hi)).b).mono hD
    · intro i hi
      rw [hlen] at hi
      simp only [dif_pos hi, List.getElem_map]
      exact ((h.kids _ (List.getElem_mem hi)).l).mono hD
  rw [hlen] at key
  exact key
theorem St.flats_take (l : List St) (k : Nat) (h : k < l.length) : St.flats (l.take (k + 1)) = St.flats (l.take k) ++ (l[k] :: (St.flats l[k].body ++ St.flats l[k].els)) := by
  rw [List.take_succ_eq_append_getElem h, St.flats_append]
  simp [St.flats, St.flat_eq]
theorem St.sizes_take (l : List St) (k : Nat) (h : k < l.length) : St.sizes (l.take (k + 1)) = St.sizes (l.take k) + (1 + (St.sizes l[k].body + St.sizes l[k].els)) := by
  rw [List.take_succ_eq_append_getElem h, St.sizes_append]
  simp [St.sizes, St.size_eq]
theorem St.sizes_take_le (l : List St) (k : Nat) : St.sizes (l.take k) ≤ St.sizes l := by
  have := St.sizes_append (l.take k) (l.drop k)
  rw [List.take_append_drop] at this; omega
theorem ab_one {wr W w4 : World} {base : Nat} {ps : List Item} {v v' : Value} {p : Item} (h : OwnK wr base (Far base wr v) ps v) (k : Kept wr W) (hp : p.InD W (Rng wr.heap.size W.heap.size)) (hG : Grew W base 46 11 v ps.length (itCells ps) 1 p.cells v' w4) :
    OwnK w4 base (Far base w4 v') (ps ++ [p]) v' ∧ Grow wr w4 v v' := by
  have hz := k.size
  have h1 : OwnK W base (Far base W v) ps v := (h.kept k fun i hi => hi.2.1).mono fun i hi => ⟨hi.1, by have := hi.2.1; omega, hi.2.2⟩
  refine ⟨h1.grewFar (qs := [p]) (fun q hq => ?_) (by rw [itCells_one]; exact hG), (Grow.kept v k).trans hG.grow⟩
  obtain rfl : q = p := by simpa using hq
  refine hp.mono fun i hi => ⟨?_, hi.2, fun e => ?_⟩
  · have := h.le; have := hi.1; omega
  · have := (h.row.lt i e.symm).2; have := hi.1; omega
/-- A statement's box: its eleven cells, that may be written. -/
structure BoxS (w : World) (B : Nat) (cs : List Value) : Prop where
  rng : w.rangeAt B 0 cs
  fz : ∀ j, w.frozen? ⟨B, j, none⟩ = false
  lt : B < w.heap.size
theorem BoxS.kept {w w' : World} {B : Nat} {cs : List Value} (h : BoxS w B cs) (k : Kept w w') : BoxS w' B cs :=
  ⟨fun j v hv => k.cellS (h.rng j v hv), fun j => (k.frozen h.lt).trans (h.fz j), Nat.lt_of_lt_of_le h.lt k.size⟩
theorem BoxS.set {w : World} {B : Nat} {cs : List Value} (h : BoxS w B cs) (j : Nat) (vs : List Value) (hj : j + vs.length ≤ cs.length) : BoxS (w.setCells B j vs) B (cs.take j ++ vs ++ cs.drop (j + vs.length)) := by
  refine ⟨fun i v hv => ?_, fun j => by rw [World.frozen?_setCells]; exact h.fz j, by rw [size_setCells]; exact h.lt⟩
  have ht : ∀ i, i < vs.length → (w.cell? ⟨B, j + i, none⟩).isSome = true := fun i hi => by
    have := h.rng (j + i) _ (List.getElem?_eq_getElem (by omega))
    rw [Nat.zero_add] at this; rw [this]; rfl
  rw [Nat.zero_add]
  by_cases h1 : i < j
  · rw [World.cell?_setCells_out B vs j w ⟨B, i, none⟩ (fun _ _ => .inl h1)]
    have := h.rng i v (by
      rw [List.append_assoc, List.getElem?_append_left (by rw [List.length_take]; omega), List.getElem?_take, if_pos h1] at hv
      exact hv)
    rwa [Nat.zero_add] at this
  · by_cases h2 : i < j + vs.length
    · have hlt : (cs.take j).length = j := by rw [List.length_take]; omega
      have he := World.cell?_setCells_in B vs j w ht (i - j) (by omega)
      rw [show j + (i - j) = i by omega] at he
      rw [he, ← hv, List.append_assoc, List.getElem?_append_right (by omega), hlt, List.getElem?_append_left (by omega), List.getElem?_eq_getElem (by omega)]
    · rw [World.cell?_setCells_out B vs j w ⟨B, i, none⟩ (fun _ _ => .inr (by show j + vs.length ≤ i; omega))]
      have hlt : (cs.take j).length = j := by rw [List.length_take]; omega
      have := h.rng i v (by
        rw [List.getElem?_append_right (by rw [List.length_append]; omega), List.length_append, hlt, List.getElem?_drop] at hv
        rw [show j + vs.length + (i - (j + vs.length)) = i by omega] at hv
        exact hv)
      rwa [Nat.zero_add] at this
end Go.Proofs.Ytnfkjmafhaecgaa
