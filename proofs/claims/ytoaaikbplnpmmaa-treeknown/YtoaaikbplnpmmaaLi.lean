/- A list of statements that a call owns: what append does to it. -/
import Derived.Test.YtoaaikbplnpmmaaCu
namespace Go.Proofs.Ytoaaikbplnpmmaa
open Go.RowKit

/-- A statement, and where what it is of lies. -/
structure Item where
  s : St
  ev : Value
  bv : Value
  lv : Value
def Item.cells (p : Item) : List Value := p.s.cells p.ev p.bv p.lv
structure Item.InD (w : World) (D : Nat → Prop) (p : Item) : Prop where
  e : ExsD w D p.s.e.of p.ev
  b : StsD w D p.s.body p.bv
  l : StsD w D p.s.els p.lv
theorem Item.InD.stays {w w' : World} {D : Nat → Prop} {p : Item} (h : p.InD w D) (hs : StaysD D w w') : p.InD w' D := ⟨h.e.stays hs, h.b.stays hs, h.l.stays hs⟩
theorem Item.InD.mono {w : World} {D D' : Nat → Prop} {p : Item} (h : p.InD w D) (hs : ∀ k, D k → D' k) : p.InD w D' := ⟨h.e.mono hs, h.b.mono hs, h.l.mono hs⟩
theorem Item.InD.one {w : World} {D : Nat → Prop} {p : Item} (h : p.InD w D) : ∀ u ∈ p.cells, u.oneCell' = true := by
  obtain ⟨a1, n1, q1, e1⟩ := h.e.form
  obtain ⟨a2, n2, q2, e2⟩ := h.b.form
  obtain ⟨a3, n3, q3, e3⟩ := h.l.form
  unfold Item.cells
  rw [e1, e2, e3]
  exact St.cells_one _ _ _ _ _ _ _ _ _ _

def cellsOf (ps : List Item) : List Value := ps.flatMap Item.cells
theorem cellsOf_append (ps qs : List Item) : cellsOf (ps ++ qs) = cellsOf ps ++ cellsOf qs := by simp [cellsOf]
theorem cellsOf_one (p : Item) : cellsOf [p] = p.cells := by simp [cellsOf]
theorem cellsOf_len (ps : List Item) : (cellsOf ps).length = ps.length * 11 := by
  induction ps with
  | nil => rfl
  | cons p ps ih =>
    rw [show cellsOf (p :: ps) = p.cells ++ cellsOf ps from by simp [cellsOf], List.length_append, ih, List.length_cons, Nat.add_mul]
    have : p.cells.length = 11 := rfl
    omega
theorem cellsOf_get (ps : List Item) : ∀ i (h : i < ps.length) r, r < 11 → (cellsOf ps)[i * 11 + r]? = ps[i].cells[r]? := by
  induction ps with
  | nil => intro i h; simp at h
  | cons p ps ih =>
    intro i h r hr
    rw [show cellsOf (p :: ps) = p.cells ++ cellsOf ps from by simp [cellsOf]]
    have hl : p.cells.length = 11 := rfl
    cases i with
    | zero => rw [List.getElem?_append_left (by omega)]; simp
    | succ i =>
      rw [List.getElem?_append_right (by omega), hl, show (i + 1) * 11 + r - 11 = i * 11 + r by omega]
      rw [ih i (by simpa using h) r hr]; rfl
theorem cellsOf_one' {w : World} {D : Nat → Prop} (ps : List Item) (h : ∀ p ∈ ps, p.InD w D) : ∀ u ∈ cellsOf ps, u.oneCell' = true := by
  intro u hu
  simp only [cellsOf, List.mem_flatMap] at hu
  obtain ⟨p, hp, hu⟩ := hu
  exact (h p hp).one u hu

/-- The call owns the row v, whose items are ps; what they are of lies in D. -/
structure OwnK (w : World) (base : Nat) (D : Nat → Prop) (ps : List Item) (v : Value) : Prop where
  row : w.ownsRow base 29 11 v ps.length (cellsOf ps)
  le : base ≤ w.heap.size
  kids : ∀ p ∈ ps, p.InD w D

/-- From lo on, but for the row v's own block. -/
abbrev Far (lo : Nat) (w : World) (v : Value) : Nat → Prop := fun k => lo ≤ k ∧ k < w.heap.size ∧ some k ≠ v.ownBlock

/-- The world has grown, and nothing has turned but the row v, which is now v'. -/
structure Grow (w w' : World) (v v' : Value) : Prop where
  grown : w.grownBy w' v.ownBlock
  lies : v'.ownBlock = v.ownBlock ∨ ∃ g, v'.ownBlock = some g ∧ w.heap.size ≤ g
theorem Grow.refl (w : World) (v : Value) : Grow w w v v := ⟨⟨rfl, rfl, rfl, Nat.le_refl _, fun _ _ _ => rfl⟩, .inl rfl⟩
theorem Grow.kept {w w' : World} (v : Value) (h : Kept w w') : Grow w w' v v := ⟨⟨h.os, h.tape, h.output, h.size, fun k hk _ => h.block k hk⟩, .inl rfl⟩
theorem Grow.off {w w' : World} {v v' : Value} (h : Grow w w' v v') {k : Nat} (hk : k < w.heap.size) (hn : some k ≠ v.ownBlock) : some k ≠ v'.ownBlock := by
  rcases h.lies with e | ⟨g, e, hg⟩
  · rw [e]; exact hn
  · rw [e]; intro h; cases h; omega
theorem Grow.trans {a b c : World} {u v x : Value} (h : Grow a b u v) (k : Grow b c v x) : Grow a c u x := by
  have hz := h.grown.size
  refine ⟨⟨k.grown.os.trans h.grown.os, k.grown.tape.trans h.grown.tape, k.grown.output.trans h.grown.output, Nat.le_trans hz k.grown.size, fun i hi hn => ?_⟩, ?_⟩
  · rw [k.grown.block i (by omega) (h.off hi hn)]; exact h.grown.block i hi hn
  · rcases k.lies with e | ⟨g, e, hg⟩
    · rcases h.lies with e' | ⟨g, e', hg⟩
      · exact .inl (e.trans e')
      · exact .inr ⟨g, e.trans e', hg⟩
    · exact .inr ⟨g, e, by omega⟩
theorem Grow.stays {w w' : World} {v v' : Value} (h : Grow w w' v v') (lo : Nat) : StaysD (Far lo w v) w w' := fun k hk => h.grown.block k hk.2.1 hk.2.2
theorem Grow.far {w w' : World} {v v' : Value} (h : Grow w w' v v') (lo : Nat) : ∀ k, Far lo w v k → Far lo w' v' k := fun _ hk => ⟨hk.1, Nat.lt_of_lt_of_le hk.2.1 h.grown.size, h.off hk.2.1 hk.2.2⟩
theorem Grow.below {w w' : World} {v v' : Value} (h : Grow w w' v v') {B : Nat} (hB : B ≤ w.heap.size) (hv : ∀ k, v.ownBlock = some k → B ≤ k) : Below B w w' :=
  ⟨h.grown.os, h.grown.tape, h.grown.output, h.grown.size, fun k hk => h.grown.block k (by omega) fun e => by have := hv k e.symm; omega⟩

theorem OwnK.kept {w w' : World} {base : Nat} {D : Nat → Prop} {ps : List Item} {v : Value} (h : OwnK w base D ps v) (k : Kept w w') (hD : ∀ i, D i → i < w.heap.size) : OwnK w' base D ps v := by
  refine ⟨h.row.kept (Grow.kept (.slice none 0 0) k).grown ?_, Nat.le_trans h.le k.size, fun p hp => (h.kids p hp).stays fun i hi => k.block i (hD i hi)⟩
  cases hv : v.ownBlock <;> simp [Value.ownBlock]
theorem OwnK.mono {w : World} {base : Nat} {D D' : Nat → Prop} {ps : List Item} {v : Value} (h : OwnK w base D ps v) (k : ∀ i, D i → D' i) : OwnK w base D' ps v := ⟨h.row, h.le, fun p hp => (h.kids p hp).mono k⟩
theorem OwnK.nil (w : World) (D : Nat → Prop) : OwnK w w.heap.size D [] (.slice none 0 0) := ⟨⟨rfl, .inl ⟨rfl, rfl⟩⟩, Nat.le_refl _, fun _ h => by cases h⟩
theorem OwnK.base_le {w : World} {base : Nat} {D : Nat → Prop} {ps : List Item} {v : Value} (h : OwnK w base D ps v) : ∀ k, v.ownBlock = some k → base ≤ k := fun k e => (h.row.lt k e).1

theorem Grew.grow {w : World} {base e size : Nat} {v : Value} {n : Nat} {xs : List Value} {m : Nat} {news : List Value} {v' : Value} {w' : World} (h : Grew w base e size v n xs m news v' w') : Grow w w' v v' :=
  ⟨h.grown, h.lies.imp id fun e => ⟨_, e, Nat.le_refl _⟩⟩

/-- Behind an append of items to a row whose items' parts lie anywhere but in the row itself. -/
theorem OwnK.grewFar {w w' : World} {lo base : Nat} {ps qs : List Item} {v v' : Value} (h : OwnK w base (Far lo w v) ps v) (hq : ∀ p ∈ qs, p.InD w (Far lo w v)) (hG : Grew w base 29 11 v ps.length (cellsOf ps) qs.length (cellsOf qs) v' w') :
    OwnK w' base (Far lo w' v') (ps ++ qs) v' := by
  have hg := hG.grow
  refine ⟨by rw [cellsOf_append, List.length_append]; exact hG.own, Nat.le_trans h.le hg.grown.size, fun p hp => ?_⟩
  rcases List.mem_append.1 hp with hp | hp
  · exact ((h.kids p hp).stays (hg.stays lo)).mono (hg.far lo)
  · exact ((hq p hp).stays (hg.stays lo)).mono (hg.far lo)
/-- Behind an append of items whose parts lie below the row's base. -/
theorem OwnK.grewLow {w w' : World} {hi base : Nat} {ps qs : List Item} {v v' : Value} (h : OwnK w base (Rng 0 hi) ps v) (hb : hi ≤ base) (hq : ∀ p ∈ qs, p.InD w (Rng 0 hi)) (hG : Grew w base 29 11 v ps.length (cellsOf ps) qs.length (cellsOf qs) v' w') :
    OwnK w' base (Rng 0 hi) (ps ++ qs) v' := by
  have hg := hG.grow
  have hbl : Below base w w' := hg.below h.le h.base_le
  have st : StaysD (Rng 0 hi) w w' := fun k hk => hbl.block k (by have := hk.2; omega)
  refine ⟨by rw [cellsOf_append, List.length_append]; exact hG.own, Nat.le_trans h.le hg.grown.size, fun p hp => ?_⟩
  rcases List.mem_append.1 hp with hp | hp
  · exact (h.kids p hp).stays st
  · exact (hq p hp).stays st

/-- The list that it is, as statements in memory. -/
theorem OwnK.sts {w : World} {base : Nat} {D D' : Nat → Prop} {ps : List Item} {v : Value} (h : OwnK w base D ps v) (hD : ∀ k, D k → D' k) (hv : ∀ k, v.ownBlock = some k → D' k) : StsD w D' (ps.map (·.s)) v := by
  obtain ⟨a, cap, rfl, hs⟩ := own_slice h.row
  have hlen : (ps.map (·.s)).length = ps.length := List.length_map _
  have hg : ∀ i (hi : i < ps.length), ((ps.map (·.s)).getD i st0) = ps[i].s := fun i hi => by simp [List.getD, hi]
  have key : StsD w D' (ps.map (·.s)) (.slice a (ps.map (·.s)).length cap) := by
    refine .mk _ a cap (fun i => if h : i < ps.length then ps[i].ev else undef) (fun i => if h : i < ps.length then ps[i].bv else undef) (fun i => if h : i < ps.length then ps[i].lv else undef) (by rw [hlen]; exact hs) ?_ ?_ ?_ ?_
    · rw [hlen]
      intro i hi
      rcases h.row.2 with ⟨e, h0⟩ | ⟨g, cap', cur, e, hb, hh, h1, h2, h3, h4⟩
      · omega
      · cases e
        refine ⟨g, 0, rfl, hv g rfl, fun j => frozen_of_row w g j cur _ hh, fun j u hu => ?_⟩
        simp only [hg i hi, dif_pos hi] at hu
        have hj : j < 11 := by have := (List.getElem?_eq_some_iff.1 hu).1; exact this
        have hx := cellsOf_get ps i hi j hj
        rw [cell_of_row w g _ cur _ (0, 0) hh, Nat.zero_add]
        have h5 : (cellsOf ps)[i * 11 + j]? = some u := hx.trans hu
        rw [← h4, List.getElem?_take] at h5
        split at h5
        · simpa using h5
        · cases h5
    · intro i hi
      rw [hlen] at hi
      simp only [dif_pos hi, List.getElem_map]
      exact ((h.kids _ (List.getElem_mem hi)).e).mono hD
    · intro i hi
      rw [hlen] at hi
      simp only [dif_pos hi, List.getElem_map]
      exact ((h.kids _ (List.getElem_mem hi)).b).mono hD
    · intro i hi
      rw [hlen] at hi
      simp only [dif_pos hi, List.getElem_map]
      exact ((h.kids _ (List.getElem_mem hi)).l).mono hD
  rw [hlen] at key
  exact key

theorem St.flats_take (l : List St) (k : Nat) (h : k < l.length) : St.flats (l.take (k + 1)) = St.flats (l.take k) ++ (l[k] :: (St.flats l[k].body ++ St.flats l[k].els)) := by
  rw [List.take_succ_eq_append_getElem h, St.flats_append]
  simp [St.flats, St.flat_eq]
theorem St.sizes_take (l : List St) (k : Nat) (h : k < l.length) : St.sizes (l.take (k + 1)) = St.sizes (l.take k) + (1 + (St.sizes l[k].body + St.sizes l[k].els)) := by
  rw [List.take_succ_eq_append_getElem h, St.sizes_append]
  simp [St.sizes, St.size_eq]
theorem St.sizes_take_le (l : List St) (k : Nat) : St.sizes (l.take k) ≤ St.sizes l := by
  have := St.sizes_append (l.take k) (l.drop k)
  rw [List.take_append_drop] at this; omega
#print axioms OwnK.sts
end Go.Proofs.Ytoaaikbplnpmmaa
