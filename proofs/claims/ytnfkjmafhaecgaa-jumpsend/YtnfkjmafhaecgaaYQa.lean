/- Qa -/
import Derived.Test.YtnfkjmafhaecgaaYSf
import Derived.Test.YtnfkjmafhaecgaaYSn

namespace Go.Proofs.Ytnfkjmafhaecgaa
open Go.RowKit
theorem box_newQ (w : World) (cs : Array Value) (ty : Nat) : BoxS (w.alloc (.cells cs ty)) w.heap.size cs.toList := by
  refine ⟨fun j v hv => ?_, fun j => by simp, by simp⟩
  rw [Nat.zero_add]
  simpa using hv
/-- Where the reference's Parse stands among declarations. -/
structure QrD (R g cap P : Nat) (ts : List Lx.Tk) (w4 wr : World) (b : Nat) (fl : Bool) (b0 : Nat) (ds : List Dc) (v : Value) : Prop where
  rq : Rq wr R g cap ts b fl b0
  lt : b < ts.length
  box : BoxS wr P [v, .slice none 0 0]
  own : OwnD wr w4.heap.size ds v
  bu : Bu (RB R P) w4 wr
  lR : R < P
  lP : P < w4.heap.size
  lg : g < R
/-- Where it stands among threads. -/
structure QrT (R g cap P : Nat) (ts : List Lx.Tk) (w4 w5 wr : World) (b : Nat) (fl : Bool) (b0 : Nat) (ds : List Dc) (dv : Value) (v : Value) : Prop where
  rq : Rq wr R g cap ts b fl b0
  lt : b < ts.length
  box : BoxS wr P [dv, v]
  od : OwnD w5 w4.heap.size ds dv
  ds : DsIn w5 w4.heap.size w5.heap.size ds dv
  bu : Bu (RB R P) w5 wr
  bu0 : Bu (RB R P) w4 w5
  lR : R < P
  lP : P < w4.heap.size
  lg : g < R
section
variable {R g cap P : Nat} {ts : List Lx.Tk} {w4 w5 wr W wa : World} {b : Nat} {fl : Bool} {b0 : Nat}
theorem QrD.next {ds : List Dc} {v : Value} (h : QrD R g cap P ts w4 wr b fl b0 ds v) (k : But R wr W) {b' : Nat} {fl' : Bool} {b0' : Nat} (hq : Rq W R g cap ts b' fl' b0') (hl : b' < ts.length) : QrD R g cap P ts w4 W b' fl' b0' ds v := by
  have hz := h.bu.size
  have l1 := h.lR; have l2 := h.lP
  exact ⟨hq, hl, h.box.but k (by omega), h.own.bu (M := (· = R)) (k.bu rfl) (fun j h1 _ e => by omega), h.bu.then (k.bu (.inl rfl)), h.lR, h.lP, h.lg⟩
theorem QrD.kept {ds : List Dc} {v : Value} (h : QrD R g cap P ts w4 wr b fl b0 ds v) (k : Kept wr W) : QrD R g cap P ts w4 W b fl b0 ds v := h.next (But.of k) (h.rq.kept k) h.lt
theorem QrD.grown {ds : List Dc} {v : Value} (h : QrD R g cap P ts w4 wr b fl b0 ds v) (k1 : Kept wr W) {d : Dc} {ad : Option Addr} {cp : Nat} (hG : Grew W w4.heap.size 77 4 v ds.length (dcs ds) 1 d.cells (.slice ad (ds.length + 1) cp) wa) :
    QrD R g cap P ts w4 (wa.setCell ⟨P, 0, none⟩ (.slice ad (ds.length + 1) cp)) b fl b0 (ds ++ [d]) (.slice ad (ds.length + 1) cp) := by
  have hown : ∀ k, some k = v.ownBlock → w4.heap.size ≤ k := fun k e => (h.own.row.lt k e.symm).1
  have hz := h.bu.size
  have l1 := h.lR; have l2 := h.lP; have l3 := h.lg
  have hfar : ∀ k, k < wr.heap.size → some k ≠ v.ownBlock → wa.heap[k]? = wr.heap[k]? := fun k hk hn => (hG.grown.block k (by have := k1.size; omega) hn).trans (k1.block k hk)
  have e : ∀ k, k < w4.heap.size → wa.heap[k]? = wr.heap[k]? := fun k hk => hfar k (by omega) fun c => by have := hown k c; omega
  have hsz : wr.heap.size ≤ wa.heap.size := by have := hG.grown.size; have := k1.size; omega
  have bx : BoxS wa P [v, .slice none 0 0] := h.box.off (e P l2) hsz
  have rq := h.rq.off (e R (by omega)) (e g (by omega)) hsz
  refine ⟨rq.sets (B := P) (by omega) (by omega) 0 [.slice ad (ds.length + 1) cp], h.lt, bx.set 0 [.slice ad (ds.length + 1) cp] (by simp), ?_, ?_, h.lR, h.lP, h.lg⟩
  · refine OwnD.bu (M := (· = P)) (w := wa) ⟨?_, by have := h.own.le; omega⟩ (Bu.set (M := (· = P)) (Bu.refl _ _) (.inl rfl) 0 _) fun k hk _ e => by omega
    rw [dcs_append, dcs_one, List.length_append]; exact hG.own
  · refine Bu.set ⟨?_, ?_, ?_, by omega, fun k hk hn => (e k hk).trans (h.bu.block k hk hn)⟩ (.inl (.inr rfl)) 0 _
    · exact hG.grown.os.trans (k1.os.trans h.bu.os)
    · exact hG.grown.tape.trans (k1.tape.trans h.bu.tape)
    · exact hG.grown.output.trans (k1.output.trans h.bu.output)
theorem QrD.cellA {ds : List Dc} {v : Value} (h : QrD R g cap P ts w4 wr b fl b0 ds v) (k1 : Kept wr W) {cs : List Value} {v' : Value} (hG : Grew W w4.heap.size 77 4 v ds.length (dcs ds) 1 cs v' wa) : wa.cell? ⟨P, 0, none⟩ = some v ∧ wa.frozen? ⟨P, 0, none⟩ = false := by
  have l2 := h.lP
  have hB : wa.heap[P]? = wr.heap[P]? := (hG.grown.block P (by have := k1.size; have := h.bu.size; omega) fun c => by have := (h.own.row.lt P c.symm).1; omega).trans (k1.block P h.box.lt)
  rw [World.cell?_of_block (w := wr) (a := ⟨P, 0, none⟩) hB, World.frozen?_of_block (w := wr) (a := ⟨P, 0, none⟩) hB]
  exact ⟨h.box.cell 0 rfl, h.box.fz 0⟩
theorem QrT.start {ds : List Dc} {v : Value} (h : QrD R g cap P ts w4 wr b fl b0 ds v) : QrT R g cap P ts w4 wr wr b fl b0 ds v (.slice none 0 0) :=
  ⟨h.rq, h.lt, h.box, h.own, h.own.ds fun k hk => ⟨(h.own.row.lt k hk).1, (h.own.row.lt k hk).2⟩, Bu.refl _ _, h.bu, h.lR, h.lP, h.lg⟩
theorem QrT.next {ds : List Dc} {dv v : Value} (h : QrT R g cap P ts w4 w5 wr b fl b0 ds dv v) (k : But R wr W) {b' : Nat} {fl' : Bool} {b0' : Nat} (hq : Rq W R g cap ts b' fl' b0') (hl : b' < ts.length) : QrT R g cap P ts w4 w5 W b' fl' b0' ds dv v := by
  have hz := h.bu.size
  have hz0 := h.bu0.size
  have l1 := h.lR; have l2 := h.lP
  exact ⟨hq, hl, h.box.but k (by omega), h.od, h.ds, h.bu.then (k.bu (.inl rfl)), h.bu0, h.lR, h.lP, h.lg⟩
theorem QrT.kept {ds : List Dc} {dv v : Value} (h : QrT R g cap P ts w4 w5 wr b fl b0 ds dv v) (k : Kept wr W) : QrT R g cap P ts w4 w5 W b fl b0 ds dv v := h.next (But.of k) (h.rq.kept k) h.lt
theorem QrT.own {ds : List Dc} {dv v : Value} {ps : List (List St × Value)} (h : QrT R g cap P ts w4 w5 wr b fl b0 ds dv v) (ho : OwnB wr w5.heap.size (Far w5.heap.size wr v) ps v) (k : But R wr W) : OwnB W w5.heap.size (Far w5.heap.size W v) ps v := by
  have hz0 := h.bu0.size
  have l1 := h.lR; have l2 := h.lP
  exact ho.bu (M := (· = R)) (k.bu rfl) (fun j h1 _ e => by omega)
theorem QrT.far {ds : List Dc} {dv v : Value} {ps : List (List St × Value)} (h : QrT R g cap P ts w4 w5 wr b fl b0 ds dv v) (ho : OwnB wr w5.heap.size (Far w5.heap.size wr v) ps v) (k1 : Kept wr W) {cs : List Value} {v' : Value} (hG : Grew W w5.heap.size 34 1 v ps.length (ps.map (·.2)) 1 cs v' wa) {k : Nat} (hk : k < w5.heap.size) : wa.heap[k]? = wr.heap[k]? := by
  have hz := h.bu.size
  exact (hG.grown.block k (by have := k1.size; omega) fun c => by have := (ho.row.lt k c.symm).1; omega).trans (k1.block k (by omega))
theorem QrT.cellA {ds : List Dc} {dv v : Value} {ps : List (List St × Value)} (h : QrT R g cap P ts w4 w5 wr b fl b0 ds dv v) (ho : OwnB wr w5.heap.size (Far w5.heap.size wr v) ps v) (k1 : Kept wr W) {cs : List Value} {v' : Value} (hG : Grew W w5.heap.size 34 1 v ps.length (ps.map (·.2)) 1 cs v' wa) : wa.cell? ⟨P, 1, none⟩ = some v ∧ (∀ j, wa.frozen? ⟨P, j, none⟩ = false) ∧ P < wa.heap.size := by
  have l2 := h.lP
  have hB := h.far ho k1 hG (k := P) (by have := h.bu0.size; omega)
  refine ⟨?_, fun j => ?_, ?_⟩
  · rw [World.cell?_of_block (w := wr) (a := ⟨P, 1, none⟩) hB]; exact h.box.cell 1 rfl
  · rw [World.frozen?_of_block (w := wr) (a := ⟨P, j, none⟩) hB]; exact h.box.fz j
  · have := hG.grown.size; have := k1.size; have := h.box.lt; omega
theorem QrT.grown {ds : List Dc} {dv v : Value} {ps : List (List St × Value)} (h : QrT R g cap P ts w4 w5 wr b fl b0 ds dv v) (ho : OwnB wr w5.heap.size (Far w5.heap.size wr v) ps v) (k1 : Kept wr W) {x : Value} {ad : Option Addr} {cp : Nat} (hG : Grew W w5.heap.size 34 1 v ps.length (ps.map (·.2)) 1 [x] (.slice ad (ps.length + 1) cp) wa) :
    QrT R g cap P ts w4 w5 (wa.setCell ⟨P, 1, none⟩ (.slice ad (ps.length + 1) cp)) b fl b0 ds dv (.slice ad (ps.length + 1) cp) ∧ ∀ bs, StsD wr (Far w5.heap.size wr v) bs x → OwnB (wa.setCell ⟨P, 1, none⟩ (.slice ad (ps.length + 1) cp)) w5.heap.size (Far w5.heap.size (wa.setCell ⟨P, 1, none⟩ (.slice ad (ps.length + 1) cp)) (.slice ad (ps.length + 1) cp)) (ps ++ [(bs, x)]) (.slice ad (ps.length + 1) cp) := by
  have hz := h.bu.size
  have hz0 := h.bu0.size
  have l1 := h.lR; have l2 := h.lP; have l3 := h.lg
  have e : ∀ k, k < w5.heap.size → wa.heap[k]? = wr.heap[k]? := fun k hk => h.far ho k1 hG hk
  have hsz : wr.heap.size ≤ wa.heap.size := by have := hG.grown.size; have := k1.size; omega
  have bx : BoxS wa P [dv, v] := h.box.off (e P (by omega)) hsz
  have rq := h.rq.off (e R (by omega)) (e g (by omega)) hsz
  have hg := hG.grow
  have hW : OwnB W w5.heap.size (Far w5.heap.size W v) ps v := ho.bu (M := fun _ => False) (Bu.of k1) fun _ _ _ c => c
  refine ⟨⟨rq.sets (B := P) (by omega) (by omega) 1 [.slice ad (ps.length + 1) cp], h.lt, bx.set 1 [.slice ad (ps.length + 1) cp] (by simp), h.od, h.ds, ?_, h.bu0, h.lR, h.lP, h.lg⟩, fun bs hb => ?_⟩
  · refine Bu.set ⟨?_, ?_, ?_, by omega, fun k hk hn => (e k hk).trans (h.bu.block k hk hn)⟩ (.inl (.inr rfl)) 1 _
    · exact hG.grown.os.trans (k1.os.trans h.bu.os)
    · exact hG.grown.tape.trans (k1.tape.trans h.bu.tape)
    · exact hG.grown.output.trans (k1.output.trans h.bu.output)
  · refine OwnB.bu (M := (· = P)) (w := wa) ⟨?_, by have := ho.le; omega, fun p hp => ?_⟩ (Bu.set (M := (· = P)) (Bu.refl _ _) (.inl rfl) 1 _) fun k hk _ e => by omega
    · rw [List.map_append, List.length_append]; exact hG.own
    · rcases List.mem_append.1 hp with hp | hp
      · exact ((hW.kids p hp).stays (hg.stays w5.heap.size)).mono (hg.far w5.heap.size)
      · obtain rfl : p = (bs, x) := by simpa using hp
        have h1 : StsD W (Far w5.heap.size W v) bs x := (hb.stays (w' := W) fun k hk => k1.block k hk.2.1).mono fun k hk => ⟨hk.1, Nat.lt_of_lt_of_le hk.2.1 k1.size, hk.2.2⟩
        exact (h1.stays (hg.stays w5.heap.size)).mono (hg.far w5.heap.size)
theorem QrD.aside {ds : List Dc} {v : Value} (h : QrD R g cap P ts w4 wr b fl b0 ds v) {D : Nat} (hD : w4.heap.size ≤ D) (hn : v.ownBlock ≠ some D) (o : Nat) (x : Value) : QrD R g cap P ts w4 (wr.setCell ⟨D, o, none⟩ x) b fl b0 ds v := by
  have l1 := h.lR; have l2 := h.lP; have l3 := h.lg
  have e : ∀ k, k ≠ D → (wr.setCell ⟨D, o, none⟩ x).heap[k]? = wr.heap[k]? := fun k hk => heap_setCells D [x] o wr k hk
  refine ⟨h.rq.sets (B := D) (by omega) (by omega) o [x], h.lt, h.box.off (e P (by omega)) (by rw [setCell_size]; exact Nat.le_refl _), ⟨⟨h.own.row.1, ?_⟩, by rw [setCell_size]; exact h.own.le⟩, h.bu.set (.inr hD) o x, h.lR, h.lP, h.lg⟩
  rcases h.own.row.2 with h0 | ⟨g', cap', cur, e1, hb, hg, r⟩
  · exact .inl h0
  · exact .inr ⟨g', cap', cur, e1, hb, (e g' fun c => hn (by rw [e1, ← c]; rfl)).trans hg, r⟩
end
theorem OwnD.lower {w : World} {base base' : Nat} {l : List Dc} {v : Value} (h : OwnD w base l v) (hb : base' ≤ base) : OwnD w base' l v := by
  refine ⟨⟨h.row.1, ?_⟩, Nat.le_trans hb h.le⟩
  rcases h.row.2 with h0 | ⟨g, cap, cur, e, h1, r⟩
  · exact .inl h0
  · exact .inr ⟨g, cap, cur, e, Nat.le_trans hb h1, r⟩
/-- What Parse leaves. -/
def GotQ (w : World) (r : Option (List Dc × List (List St))) (q : Nat) (e : Ending) (w' : World) : Prop :=
  ∃ (a1 : Option Addr) (n1 q1 : Nat) (a2 : Option Addr) (n2 q2 : Nat) (Q E : Int), e = .returned (.tuple #[.agg #[.slice a1 n1 q1, .slice a2 n2 q2], .int .i64 Q, .int .i64 E]) ∧
    Hid (Kept w w' ∧ (r = none → a1 = none ∧ n1 = 0 ∧ q1 = 0 ∧ a2 = none ∧ n2 = 0 ∧ q2 = 0 ∧ Q = (q : Int) ∧ E = 2) ∧ (∀ d t, r = some (d, t) → Q = 0 ∧ E = 0 ∧ DsIn w' w.heap.size w'.heap.size d (.slice a1 n1 q1) ∧ TsIn w' w.heap.size w'.heap.size t (.slice a2 n2 q2) ∧ OwnD w' w.heap.size d (.slice a1 n1 q1)))
theorem QrT.res {R g cap P : Nat} {ts : List Lx.Tk} {w w4 w5 wr : World} {b : Nat} {fl : Bool} {b0 : Nat} {ds : List Dc} {dv v : Value} (h : QrT R g cap P ts w4 w5 wr b fl b0 ds dv v) (hB : w.heap.size < R) (hX : BoxS w4 w.heap.size [.slice none 0 0, .slice none 0 0]) : BoxS wr w.heap.size [.slice none 0 0, .slice none 0 0] := by
  have l1 := h.lR; have l2 := h.lP
  have k := h.bu0.then h.bu
  exact hX.off (k.block _ hX.lt fun c => by rcases c with c | c <;> omega) k.size
theorem QrT.keptW {R g cap P : Nat} {ts : List Lx.Tk} {w w4 w5 wr : World} {b : Nat} {fl : Bool} {b0 : Nat} {ds : List Dc} {dv v : Value} (h : QrT R g cap P ts w4 w5 wr b fl b0 ds dv v) (hB : w.heap.size < R) (hk : Kept w w4) : Kept w wr :=
  (h.bu0.then h.bu).kept hk fun i c => by have l1 := h.lR; rcases c with c | c <;> omega
theorem QrT.fail {R g cap P : Nat} {ts : List Lx.Tk} {w w4 w5 wr wx : World} {b : Nat} {fl : Bool} {b0 : Nat} {ds : List Dc} {dv v : Value} (h : QrT R g cap P ts w4 w5 wr b fl b0 ds dv v) (hB : w.heap.size < R) (hk : Kept w w4) (k : Kept wr wx) (q : Nat) :
    GotQ w none q (.returned (.tuple #[.agg #[.slice none 0 0, .slice none 0 0], .int .i64 (q : Int), .int .i64 2])) (wx.setCells w.heap.size 0 [.slice none 0 0, .slice none 0 0]) :=
  ⟨none, 0, 0, none, 0, 0, _, _, rfl, Below.setCells ((h.keptW hB hk).then k) (Nat.le_refl _) _ _, fun _ => ⟨rfl, rfl, rfl, rfl, rfl, rfl, rfl, rfl⟩, fun d t c => by cases c⟩
theorem QrT.done {R g cap P : Nat} {ts : List Lx.Tk} {w w4 w5 wr : World} {b : Nat} {fl : Bool} {b0 : Nat} {ds : List Dc} {ps : List (List St × Value)} {a1 a2 : Option Addr} {n1 q1 n2 q2 : Nat} (h : QrT R g cap P ts w4 w5 wr b fl b0 ds (.slice a1 n1 q1) (.slice a2 n2 q2)) (ho : OwnB wr w5.heap.size (Far w5.heap.size wr (.slice a2 n2 q2)) ps (.slice a2 n2 q2)) (hB : w.heap.size < R) (hk : Kept w w4) (q : Nat) :
    GotQ w (some (ds, ps.map (·.1))) q (.returned (.tuple #[.agg #[.slice a1 n1 q1, .slice a2 n2 q2], .int .i64 0, .int .i64 0])) (wr.setCells w.heap.size 0 [.slice a1 n1 q1, .slice a2 n2 q2]) := by
  have l1 := h.lR; have l2 := h.lP
  have z0 := h.bu0.size
  have z1 := h.bu.size
  have st : ∀ j, w4.heap.size ≤ j → (wr.setCells w.heap.size 0 [.slice a1 n1 q1, .slice a2 n2 q2]).heap[j]? = wr.heap[j]? := fun j hj => heap_setCells _ _ _ _ j (by omega)
  have hsz : (wr.setCells w.heap.size 0 [.slice a1 n1 q1, .slice a2 n2 q2]).heap.size = wr.heap.size := size_setCells ..
  refine ⟨a1, n1, q1, a2, n2, q2, 0, 0, rfl, Below.setCells (h.keptW hB hk) (Nat.le_refl _) _ _, fun c => (by cases c), fun d t c => ?_⟩
  injection c with c
  injection c with c1 c2
  subst c1 c2
  refine ⟨rfl, rfl, ?_, ?_, ?_⟩
  · exact ((h.ds.stays (w' := wr) fun j hj => h.bu.block j hj.2 fun c => by have := hj.1; rcases c with c | c <;> omega).stays fun j hj => st j hj.1).mono (Rng.up (by omega) (by omega))
  · have ht := ho.ts (D' := Rng w5.heap.size wr.heap.size) (fun j hj => ⟨hj.1, hj.2.1⟩) (fun j hj => ho.row.lt j hj)
    exact (ht.stays fun j hj => st j (by have := hj.1; omega)).mono (Rng.up (by omega) (by omega))
  · have h1 := h.od.bu h.bu (fun k hk _ c => by rcases c with c | c <;> omega)
    have h2 := h1.bu (M := (· = w.heap.size)) (Bu.sets (M := (· = w.heap.size)) (Bu.refl _ _) (.inl rfl) 0 [.slice a1 n1 q1, .slice a2 n2 q2]) (fun k hk _ e => by omega)
    exact h2.lower (by omega)
/-! ### The plain reader, step by step -/
theorem bindq_eq {α β : Type} {p p2 : Pp.R α} {f : α → Pp.R β} {l l2 : List Lx.Core} (h : p2 l2 = p l) : Pp.bind p f l = Pp.bind p2 f l2 := by unfold Pp.bind; rw [h]
theorem dk_kind {t : List UInt8} (h : Pp.dk t ≠ 0) : kindOf t = 1 := by
  unfold Pp.dk at h
  repeat' split at h
  all_goals first
    | (rename_i h'; rw [h']; decide)
    | exact absurd rfl h
abbrev rest (pl : Pp.Pl) (d : List Dc) : Pp.R (List Dc × List (List St)) := Pp.bind (Pp.threads pl 4 []) fun t => Pp.ended d t
/-- All that is left to read, among declarations. -/
def toRead (pl : Pp.Pl) (f : Nat) (ds : List Dc) (l : List Lx.Core) : Option (List Dc × List (List St)) × List Lx.Core := Pp.bind (Pp.decls pl f ds) (rest pl) l
theorem toRead_none {pl : Pp.Pl} {f : Nat} {ds : List Dc} {l : List Lx.Core} (h : Pp.dk (Px.hd l).2.1 = 0) : toRead pl (f + 1) ds l = rest pl ds l := by
  unfold toRead
  rw [Pp.bind_some (x := ds) (m := l) (by rw [Pp.decls, if_pos h])]
theorem toRead_full {pl : Pp.Pl} {ds : List Dc} {l : List Lx.Core} : toRead pl 0 ds l = rest pl ds l := by
  unfold toRead
  rw [Pp.bind_some (x := ds) (m := l) (by rw [Pp.decls])]
/-- No more of them may stand there. -/
theorem rest_stop {pl : Pp.Pl} {ds : List Dc} {l : List Lx.Core} (h : (Px.hd l).2.1 ≠ Pp.tGo) : rest pl ds l = (none, l) := by
  unfold rest
  rw [Pp.bind_some (x := []) (m := l) (by rw [Pp.threads, if_neg h])]
  unfold Pp.ended
  rw [if_neg (fun c => c.1 rfl)]
theorem dk_go {t : List UInt8} (h : Pp.dk t ≠ 0) : t ≠ Pp.tGo := by rintro rfl; exact h (by decide)
theorem toRead_bad {pl : Pp.Pl} {f : Nat} {ds : List Dc} {l m : List Lx.Core} (h : Pp.dk (Px.hd l).2.1 ≠ 0) (hd : Pp.decl pl l = (none, m)) : toRead pl (f + 1) ds l = (none, m) := by
  unfold toRead
  exact Pp.bind_none (by rw [Pp.decls, if_neg h, hd])
theorem toRead_next {pl : Pp.Pl} {f : Nat} {ds : List Dc} {d : Dc} {l m : List Lx.Core} (h : Pp.dk (Px.hd l).2.1 ≠ 0) (hd : Pp.decl pl l = (some d, m)) : toRead pl (f + 1) ds l = toRead pl f (ds ++ [d]) m := by
  unfold toRead
  exact bindq_eq (by rw [Pp.decls.eq_2, if_neg h, hd])
theorem decl_no {pl : Pp.Pl} {l : List Lx.Core} (hn : Px.isNm (Px.hd l.tail).2.1 = false) : Pp.decl pl l = (none, l.tail) := by
  unfold Pp.decl
  split
  · exact bind_name_no hn
  · exact bind_name_no hn
theorem decl_plain {pl : Pp.Pl} {l : List Lx.Core} (h6 : Pp.dk (Px.hd l).2.1 ≠ 6) (hn : isNmT (Px.hd l.tail) = true) : Pp.decl pl l = (some ⟨Pp.dk (Px.hd l).2.1, Px.ba (Px.hd l.tail).2.1, 0, (pl l.length).1, (pl l.length).2⟩, l.tail.tail) := by
  unfold Pp.decl
  rw [if_neg h6, bind_name_yes hn]; rfl
theorem decl_chan {pl : Pp.Pl} {l : List Lx.Core} (h6 : Pp.dk (Px.hd l).2.1 = 6) (hn : isNmT (Px.hd l.tail) = true) (hk : isNo 3 (Px.hd l.tail.tail) = true) : Pp.decl pl l = (some ⟨6, Px.ba (Px.hd l.tail).2.1, ((Px.hd l.tail.tail).2.2 : Nat), (pl l.length).1, (pl l.length).2⟩, l.tail.tail.tail) := by
  unfold Pp.decl
  rw [if_pos h6, bind_name_yes hn, bind_no_yes hk]; rfl
theorem decl_chan_no {pl : Pp.Pl} {l : List Lx.Core} (h6 : Pp.dk (Px.hd l).2.1 = 6) (hn : isNmT (Px.hd l.tail) = true) (hk : isNo 3 (Px.hd l.tail.tail) = false) : Pp.decl pl l = (none, l.tail.tail) := by
  unfold Pp.decl
  rw [if_pos h6, bind_name_yes hn, bind_no_no hk]
/-- All that is left to read, among threads. -/
def toRun (pl : Pp.Pl) (f : Nat) (d : List Dc) (t : List (List St)) (l : List Lx.Core) : Option (List Dc × List (List St)) × List Lx.Core := Pp.bind (Pp.threads pl f t) (fun t => Pp.ended d t) l
theorem toRun_full {pl : Pp.Pl} {d : List Dc} {t : List (List St)} {l : List Lx.Core} : toRun pl 0 d t l = Pp.ended d t l := by
  unfold toRun
  rw [Pp.bind_some (x := t) (m := l) (by rw [Pp.threads])]
theorem toRun_no {pl : Pp.Pl} {f : Nat} {d : List Dc} {t : List (List St)} {l : List Lx.Core} (h : (Px.hd l).2.1 ≠ Pp.tGo) : toRun pl f d t l = Pp.ended d t l := by
  cases f with
  | zero => exact toRun_full
  | succ f =>
    unfold toRun
    rw [Pp.bind_some (x := t) (m := l) (by rw [Pp.threads, if_neg h])]
theorem toRun_bad {pl : Pp.Pl} {f : Nat} {d : List Dc} {t : List (List St)} {l m : List Lx.Core} (h : (Px.hd l).2.1 = Pp.tGo) (hb : Pp.block pl 8 l.tail = (none, m)) : toRun pl (f + 1) d t l = (none, m) := by
  unfold toRun
  exact Pp.bind_none (by rw [Pp.threads, if_pos h, hb])
theorem toRun_next {pl : Pp.Pl} {f : Nat} {d : List Dc} {t : List (List St)} {b : List St} {l m : List Lx.Core} (h : (Px.hd l).2.1 = Pp.tGo) (hb : Pp.block pl 8 l.tail = (some b, m)) : toRun pl (f + 1) d t l = toRun pl f d (t ++ [b]) m := by
  unfold toRun
  exact bindq_eq (by rw [Pp.threads.eq_2, if_pos h, hb])
theorem ended_yes {d : List Dc} {t : List (List St)} {l : List Lx.Core} (ht : t ≠ []) (h4 : (Px.hd l).1 = 4) : Pp.ended d t l = (some (d, t), l) := by unfold Pp.ended; rw [if_pos ⟨ht, h4⟩]
theorem ended_no {d : List Dc} {t : List (List St)} {l : List Lx.Core} (h : t = [] ∨ (Px.hd l).1 ≠ 4) : Pp.ended d t l = (none, l) := by
  unfold Pp.ended
  rw [if_neg fun c => h.elim c.1 fun e => e c.2]
end Go.Proofs.Ytnfkjmafhaecgaa
