/- What the reader's method block leaves. The walk of the reader's method block. -/
import Derived.Test.YtkobdephobaopaaGreatDoorPaB
import Derived.OneCell
import Derived.Deep.RegionWith
import Derived.Deep.RegionLaw

namespace Go.Proofs.YtkobdephobaopaaGreatDoor
open Go.RowKit
attribute [local go_sem] run_store_complex field_kind field_text field_place
attribute [local go_sem ↓] Go.wp_at_zero Go.wp_at_succ

/-- An append of rows, at a step of a region that draws its order. -/
theorem step_append_rows {P : Program} {w : World} {ops : Array Oper} {o : Oper} {a : Act} {K : Act → World → Prop} {Q : Exit → Act → World → Prop} {E' : Prop} (hgd : o.guard = none) (s x : Operand) (t : TypeId)
    (ho : o.op = .call { callee := .builtin .append, args := #[s, x], argTypes := #[t, t] })
    {e : TypeId} {z : Value} {size bytes : Nat} (E : ElemOf P t e z size bytes) {base : Nat} {v : Value} {n : Nat} {xs : List Value} (hs : a.eval s = v) (hown : w.ownsRow base e size v n xs)
    {base' : Nat} {vs : Value} {m : Nat} {news : List Value} (hx : a.eval x = vs) (hsrc : w.ownsRow base' e size vs m news) (h1 : ∀ u ∈ news, u.oneCell' = true) (hb : (n + m) * bytes ≤ 140737488355328) (h63 : n + m ≤ maxLen) (hbase : base ≤ w.heap.size)
    (h : ∀ ad cap w', Hid (Grew w base e size v n xs m news (.slice ad (n + m) cap) w') → K (a.put o.dst (.slice ad (n + m) cap)) w') : if Region.wanted o (yielded ops a.tmps) = true then Oper.wp P o a w K Q else E' := by
  have hw : Region.wanted o (yielded ops a.tmps) = true := by simp [Region.wanted, hgd]
  rw [if_pos hw]
  obtain ⟨v', w', hr, hG⟩ := run_append_rows E o.type hown hsrc h1 hb h63 hbase
  obtain ⟨ad, cap, rfl, _⟩ := own_slice hG.own
  unfold Oper.wp execOp
  simp only [ho, resolve, invoke, builtin, Sem.run_bind, Sem.run_pure, Result.andThen_ok, List.map_toArray, List.map_cons, List.map_nil, hs, hx, hr]
  exact h ad cap w' hG

theorem own_last {w : World} {base e size g n cap : Nat} : ∀ (cs zs xs : List Value), cs.length = zs.length → w.ownsRow base e size (.slice (some ⟨g, 0, none⟩) n cap) n (xs ++ zs) →
    (w.setCells g xs.length cs).ownsRow base e size (.slice (some ⟨g, 0, none⟩) n cap) n (xs ++ cs) := by
  intro cs
  induction cs generalizing w with
  | nil => intro zs xs hl h; cases zs with
    | nil => exact h
    | cons z zs => simp at hl
  | cons c cs ih =>
    intro zs xs hl h
    cases zs with
    | nil => simp at hl
    | cons z zs =>
      have h1 := (h.stored xs.length c).1
      have e1 : (xs ++ z :: zs).set xs.length c = (xs ++ [c]) ++ zs := by simp
      rw [e1] at h1
      have h2 := ih zs (xs ++ [c]) (by simpa using hl) h1
      rw [List.length_append, List.length_singleton] at h2
      rw [show xs ++ c :: cs = xs ++ [c] ++ cs by simp]
      exact h2
/-- The last item is set. -/
theorem OwnK.last {w : World} {base g n cap : Nat} {ps : List Item} {q p : Item} (h : OwnK w base (Far base w (.slice (some ⟨g, 0, none⟩) n cap)) (ps ++ [q]) (.slice (some ⟨g, 0, none⟩) n cap)) (hp : p.InD w (Far base w (.slice (some ⟨g, 0, none⟩) n cap))) :
    OwnK (w.setCells g (ps.length * 11) p.cells) base (Far base (w.setCells g (ps.length * 11) p.cells) (.slice (some ⟨g, 0, none⟩) n cap)) (ps ++ [p]) (.slice (some ⟨g, 0, none⟩) n cap) := by
  have hst : StaysD (Far base w (.slice (some ⟨g, 0, none⟩) n cap)) w (w.setCells g (ps.length * 11) p.cells) := fun k hk => heap_setCells _ _ _ _ k fun e => hk.2.2 (by rw [e]; rfl)
  have hsz : (w.setCells g (ps.length * 11) p.cells).heap.size = w.heap.size := size_setCells ..
  have hup : ∀ k, Far base w (.slice (some ⟨g, 0, none⟩) n cap) k → Far base (w.setCells g (ps.length * 11) p.cells) (.slice (some ⟨g, 0, none⟩) n cap) k := fun k hk => ⟨hk.1, by rw [hsz]; exact hk.2.1, hk.2.2⟩
  refine ⟨?_, by rw [hsz]; exact h.le, fun x hx => ?_⟩
  · have hn : (ps ++ [q]).length = (ps ++ [p]).length := by simp
    have hr := h.row
    rw [hn] at hr
    have hn2 : n = (ps ++ [p]).length := by
      obtain ⟨a', c', e1, _⟩ := own_slice hr
      injection e1
    rw [itCells_append] at hr ⊢
    rw [hn2] at hr ⊢
    have := own_last p.cells (itCells [q]) (itCells ps) (by rw [itCells_one]; rfl) hr
    rw [itCells_len] at this
    rw [itCells_one]
    exact this
  · rcases List.mem_append.1 hx with hx | hx
    · exact ((h.kids x (List.mem_append_left _ hx)).stays hst).mono hup
    · obtain rfl : x = p := by simpa using hx
      exact (hp.stays hst).mono hup
/-- Turned elsewhere. -/
theorem OwnK.bu {M : Nat → Prop} {w w' : World} {base : Nat} {ps : List Item} {v : Value} (h : OwnK w base (Far base w v) ps v) (b : Bu M w w') (hM : ∀ k, base ≤ k → k < w.heap.size → ¬ M k) : OwnK w' base (Far base w' v) ps v := by
  have hst : StaysD (Far base w v) w w' := fun k hk => b.block k hk.2.1 (hM k hk.1 hk.2.1)
  refine ⟨?_, Nat.le_trans h.le b.size, fun p hp => ((h.kids p hp).stays hst).mono fun k hk => ⟨hk.1, Nat.lt_of_lt_of_le hk.2.1 b.size, hk.2.2⟩⟩
  refine ⟨h.row.1, ?_⟩
  rcases h.row.2 with h0 | ⟨g, cap, cur, e, hb, hg, r⟩
  · exact .inl h0
  · have hlt : g < w.heap.size := by
      rcases Nat.lt_or_ge g w.heap.size with c | c
      · exact c
      · rw [Array.getElem?_eq_none (by omega)] at hg; cases hg
    exact .inr ⟨g, cap, cur, e, hb, (b.block g hlt (hM g hb hlt)).trans hg, r⟩
theorem Rd.off {w w' : World} {R g cap : Nat} {s : ByteArray} {ts : List Lx.Tk} {a d : Nat} (h : Rd w R g cap s ts a d) (eR : w'.heap[R]? = w.heap[R]?) (eg : w'.heap[g]? = w.heap[g]?) (hs : w.heap.size ≤ w'.heap.size) : Rd w' R g cap s ts a d :=
  ⟨by rw [World.cell?_of_block (w := w) (a := ⟨R, 0, none⟩) eR]; exact h.c0, by rw [World.cell?_of_block (w := w) (a := ⟨R, 1, none⟩) eR]; exact h.c1, by rw [World.cell?_of_block (w := w) (a := ⟨R, 2, none⟩) eR]; exact h.c2,
   by rw [World.frozen?_of_block (w := w) (a := ⟨R, 1, none⟩) eR]; exact h.z1, by rw [World.frozen?_of_block (w := w) (a := ⟨R, 2, none⟩) eR]; exact h.z2,
   ⟨fun j hj => by rw [World.cell?_of_block (w := w) (a := ⟨g, j, none⟩) eg]; exact h.row.cells j hj⟩, h.ne, Nat.lt_of_lt_of_le h.lt hs, h.few, h.le, h.sh⟩

/-- Where block stands before a round. -/
structure BlI (R g cap : Nat) (s : ByteArray) (ts : List Lx.Tk) (d B o : Nat) (w wr : World) (l : List Lx.Core) (ps : List Item) (v : Value) : Prop where
  rd : Rd wr R g cap s ts (ts.length - l.length) d
  eq : left ts (ts.length - l.length) = l
  al : Pp.Alive l
  put : Put B o [v] w wr
  fz : wr.frozen? ⟨B, o, none⟩ = false
  own : OwnK wr w.heap.size (Far w.heap.size wr v) ps v
  bu : Bu (RB R B) w wr
  lR : R < w.heap.size
  lB : B < w.heap.size
  lg : g < w.heap.size
  nR : B ≠ R
  ng : B ≠ g
section
variable {R g cap : Nat} {s : ByteArray} {ts : List Lx.Tk} {d B o : Nat} {w wr w2 : World} {l m : List Lx.Core} {ps : List Item} {v : Value}
theorem BlI.cell (h : BlI R g cap s ts d B o w wr l ps v) : wr.cell? ⟨B, o, none⟩ = some v := by have := h.put.cells 0 v rfl; rwa [Nat.add_zero] at this
/-- Another round's call, which turns the reader alone, and makes memory. -/
theorem BlI.next (h : BlI R g cap s ts d B o w wr l ps v) {Bs : Nat} (hBs : wr.heap.size ≤ Bs) (b : Bu (RB R Bs) wr w2) (rd : Rd w2 R g cap s ts (ts.length - m.length) d) (hs : m <:+ l) (ha : Pp.Alive m) : BlI R g cap s ts d B o w w2 m ps v := by
  have hz := h.bu.size
  have hB : w2.heap[B]? = wr.heap[B]? := b.block B (by have := h.lB; omega) (fun c => c.elim (fun e => h.nR e) (fun e => by have := h.lB; omega))
  refine ⟨rd, suf_left (a := ts.length - l.length) (by rw [h.eq]; exact hs), ha, h.put.after hB, by rw [World.frozen?_of_block (w := wr) (a := ⟨B, o, none⟩) hB]; exact h.fz, h.own.bu b ?_, ?_, h.lR, h.lB, h.lg, h.nR, h.ng⟩
  · rintro k h1 h2 (e | e)
    · have := h.lR; omega
    · omega
  · refine h.bu.then (b.up ?_)
    rintro i hi (e | e)
    · exact .inl e
    · omega
/-- Behind the append. -/
theorem BlI.grown (h : BlI R g cap s ts d B o w wr l ps v) {wf : World} {p : Item} {v' : Value} (b : Bu (fun k => some k = v.ownBlock ∨ k = B) wr wf) (hp : Put B o [v'] wr wf) (hO : OwnK wf w.heap.size (Far w.heap.size wf v') (ps ++ [p]) v') : BlI R g cap s ts d B o w wf l (ps ++ [p]) v' := by
  have hown : ∀ k, some k = v.ownBlock → w.heap.size ≤ k := fun k e => h.own.base_le k e.symm
  have hz := h.bu.size
  have eR : wf.heap[R]? = wr.heap[R]? := b.block R (by have := h.lR; omega) (fun c => c.elim (fun e => by have := hown _ e; have := h.lR; omega) (fun e => h.nR e.symm))
  have eg : wf.heap[g]? = wr.heap[g]? := b.block g (by have := h.lg; omega) (fun c => c.elim (fun e => by have := hown _ e; have := h.lg; omega) (fun e => h.ng e.symm))
  refine ⟨h.rd.off eR eg b.size, h.eq, h.al, ⟨hp.cells, fun j hj => (hp.others j hj).trans (h.put.others j hj), fun j => (hp.fz j).trans (h.put.fz j)⟩, (hp.fz o).trans h.fz, hO, ?_, h.lR, h.lB, h.lg, h.nR, h.ng⟩
  refine ⟨b.os.trans h.bu.os, b.tape.trans h.bu.tape, b.output.trans h.bu.output, Nat.le_trans hz b.size, fun k hk hn => ?_⟩
  rw [b.block k (by omega) ?_]
  · exact h.bu.block k hk hn
  · rintro (e | e)
    · have := hown _ e; omega
    · exact hn (.inr e)
/-- One way of appending: the row grows by what was read, then its place is told. -/
theorem BlI.oneway (h : BlI R g cap s ts d B o w wr l ps v) {wa W : World} (k1 : Kept wr W) {p : Item} {ad : Option Addr} {cp : Nat} (hp : p.InD wr (Far w.heap.size wr v))
    (hG : Grew W w.heap.size 46 11 v ps.length (itCells ps) 1 p.cells (.slice ad (ps.length + 1) cp) wa) : BlI R g cap s ts d B o w (wa.setCell ⟨B, o, none⟩ (.slice ad (ps.length + 1) cp)) l (ps ++ [p]) (.slice ad (ps.length + 1) cp) := by
  have hz := h.bu.size
  have h1 : OwnK W w.heap.size (Far w.heap.size W v) ps v := h.own.bu (M := fun _ => False) (Bu.of k1) fun _ _ _ h => h
  have hp1 : p.InD W (Far w.heap.size W v) := (hp.stays fun k hk => k1.block k hk.2.1).mono fun k hk => ⟨hk.1, Nat.lt_of_lt_of_le hk.2.1 k1.size, hk.2.2⟩
  have h2 := h1.grewFar (qs := [p]) (fun q hq => by obtain rfl : q = p := by simpa using hq
                                                    exact hp1) (by rw [itCells_one]; exact hG)
  have hown : ∀ k, some k = v.ownBlock → w.heap.size ≤ k := fun k e => h.own.base_le k e.symm
  have hBa : wa.heap[B]? = wr.heap[B]? := (hG.grown.block B (by have := h.lB; have := k1.size; omega) fun e => by have := hown _ e; have := h.lB; omega).trans (k1.block B (by have := h.lB; omega))
  have hBlt : B < wa.heap.size := by have := hG.grown.size; have := k1.size; have := h.lB; omega
  have hth : wa.there B o 1 := fun j hj => by
    obtain rfl : j = 0 := by omega
    rw [Nat.add_zero, World.cell?_of_block (w := wr) (a := ⟨B, o, none⟩) hBa, World.frozen?_of_block (w := wr) (a := ⟨B, o, none⟩) hBa, h.cell, h.fz]
    exact ⟨rfl, rfl⟩
  refine h.grown ?_ ((Put.sets (w := wa) [.slice ad (ps.length + 1) cp] hth).ahead hBa) (h2.bu (M := (· = B)) (Bu.set (M := (· = B)) (Bu.refl _ _) (.inl rfl) o _) fun k hk _ e => by have := h.lB; omega)
  refine ⟨hG.grown.os.trans k1.os, hG.grown.tape.trans k1.tape, hG.grown.output.trans k1.output, ?_, fun k hk hn => ?_⟩
  · have := hG.grown.size; have := k1.size; rw [setCell_size]; omega
  · rw [show (wa.setCell ⟨B, o, none⟩ (.slice ad (ps.length + 1) cp)).heap[k]? = wa.heap[k]? from heap_setCells B [_] o wa k fun e => hn (.inr e)]
    exact (hG.grown.block k (by have := k1.size; omega) fun e => hn (.inl e)).trans (k1.block k hk)
theorem BlI.far (_ : BlI R g cap s ts d B o w wr l ps v) {wa W : World} (k1 : Kept wr W) {cs : List Value} {v' : Value} (hG : Grew W w.heap.size 46 11 v ps.length (itCells ps) 1 cs v' wa) {k : Nat} (hk : k < wr.heap.size) (hn : some k ≠ v.ownBlock) : wa.heap[k]? = wr.heap[k]? := by
  exact (hG.grown.block k (by have := k1.size; omega) hn).trans (k1.block k hk)
theorem BlI.cellA (h : BlI R g cap s ts d B o w wr l ps v) {wa W : World} (k1 : Kept wr W) {cs : List Value} {v' : Value} (hG : Grew W w.heap.size 46 11 v ps.length (itCells ps) 1 cs v' wa) : wa.cell? ⟨B, o, none⟩ = some v ∧ wa.frozen? ⟨B, o, none⟩ = false := by
  have hB : wa.heap[B]? = wr.heap[B]? := h.far k1 hG (by have := h.lB; have := h.bu.size; omega) fun e => by have := h.own.base_le B e.symm; have := h.lB; omega
  rw [World.cell?_of_block (w := wr) (a := ⟨B, o, none⟩) hB, World.frozen?_of_block (w := wr) (a := ⟨B, o, none⟩) hB]
  exact ⟨h.cell, h.fz⟩
/-- The other way: the row grows by nothing, its place is told, and then it is set. -/
theorem BlI.setway {q : Item} {n g2 : Nat} {cp : Nat} (h : BlI R g cap s ts d B o w wr l (ps ++ [q]) (.slice (some ⟨g2, 0, none⟩) n cp)) {p : Item} (hp : p.InD wr (Far w.heap.size wr (.slice (some ⟨g2, 0, none⟩) n cp))) :
    BlI R g cap s ts d B o w (wr.setCells g2 (ps.length * 11) p.cells) l (ps ++ [p]) (.slice (some ⟨g2, 0, none⟩) n cp) := by
  have hg2 : w.heap.size ≤ g2 := h.own.base_le g2 rfl
  have hz : (wr.setCells g2 (ps.length * 11) p.cells).heap.size = wr.heap.size := size_setCells ..
  have e : ∀ k, k < w.heap.size → (wr.setCells g2 (ps.length * 11) p.cells).heap[k]? = wr.heap[k]? := fun k hk => heap_setCells _ _ _ _ k (by omega)
  exact ⟨h.rd.off (e R h.lR) (e g h.lg) (Nat.le_of_eq hz.symm), h.eq, h.al, h.put.after (e B h.lB), by rw [World.frozen?_of_block (w := wr) (a := ⟨B, o, none⟩) (e B h.lB)]; exact h.fz, h.own.last hp, h.bu.sets (.inr hg2) _ _, h.lR, h.lB, h.lg, h.nR, h.ng⟩
theorem BlI.item (h : BlI R g cap s ts d B o w wr l ps v) {wa W : World} (k1 : Kept wr W) {cs : List Value} {v' : Value} (hG : Grew W w.heap.size 46 11 v ps.length (itCells ps) 1 cs v' wa) {p : Item} (hp : p.InD wr (Far w.heap.size wr v)) (u : Value) : p.InD (wa.setCell ⟨B, o, none⟩ u) (Far w.heap.size (wa.setCell ⟨B, o, none⟩ u) v') := by
  have hg := hG.grow
  have h1 : p.InD W (Far w.heap.size W v) := (hp.stays fun k hk => k1.block k hk.2.1).mono fun k hk => ⟨hk.1, Nat.lt_of_lt_of_le hk.2.1 k1.size, hk.2.2⟩
  have h2 := (h1.stays (hg.stays w.heap.size)).mono (hg.far w.heap.size)
  refine (h2.stays fun k hk => heap_setCells B [_] o wa k (by have := hk.1; have := h.lB; omega)).mono fun k hk => ⟨hk.1, by rw [setCell_size]; exact hk.2.1, hk.2.2⟩
theorem BlI.less {wf : World} {ps' : List Item} {v' : Value} (h : BlI R g cap s ts d B o w wr l ps v) (h' : BlI R g cap s ts d B o w wf m ps' v') (hlt : m.length < l.length) : 6002 - atOf wf R < 6002 - atOf wr R := by
  rw [h.rd.atOf, h'.rd.atOf]
  have h1 := h.rd.few
  have h2 := congrArg List.length h.eq
  rw [left_len] at h2
  omega
/-- The cells of the row's last item. -/
theorem own_zero {wa W : World} {base g2 cp n : Nat} {v : Value} {ps : List Item} {cs : List Value} (hn : ps.length = n) (hG : Grew W base 46 11 v n (itCells ps) 1 cs (.slice (some ⟨g2, 0, none⟩) (n + 1) cp) wa) (j : Nat) (hj : j < 11) {u : Value} (hu : cs[j]? = some u) : wa.cell? ⟨g2, n * 11 + j, none⟩ = some u := by
  subst hn
  rw [hG.own.cellAt (ps.length * 11 + j) (by omega), List.getElem?_append_right (by rw [itCells_len]; omega), itCells_len, show ps.length * 11 + j - ps.length * 11 = j by omega]
  exact hu
end
end Go.Proofs.YtkobdephobaopaaGreatDoor

namespace Go.Proofs.YtkobdephobaopaaGreatDoor
open Go.RowKit
attribute [local go_sem] run_store_complex field_kind field_text field_place
attribute [local go_sem ↓] Go.wp_at_zero Go.wp_at_succ

theorem esizeSt : (Tryz.prog.info? 46).map (·.size) = some 11 := by kernel_rfl
theorem z11_box (w : World) : BoxS (w.alloc (.cells #[.int .i64 0, .string ⟨#[]⟩, .string ⟨#[]⟩, .int .i64 0, .int .i64 0, .int .i64 0, .string ⟨#[]⟩, .slice none 0 0, .slice none 0 0, .slice none 0 0, .complex .f64 0 0] 46)) w.heap.size (z11 0 0 0) := by
  refine ⟨fun j v hv => ?_, fun j => by simp, by simp⟩
  rw [Nat.zero_add]
  simpa using hv

set_option maxRecDepth 100000 in
set_option maxHeartbeats 2000000 in
theorem block_of (e : Nat) (he : e ≤ 7) (H : PB e) : PB (e + 1) := by
  intro R g cap s ts a B o w h hl hc hf nR ng r m hr
  have HS := hide (statement_of e H)
  have hlt := alive_lt hl
  obtain ⟨d0, hd0⟩ : ∃ d0, 8 - (e + 1) = d0 := ⟨_, rfl⟩
  have hd1 : d0 + 1 = 8 - e := by omega
  have hd2 : d0 ≤ 7 := by omega
  rw [hd0] at h ⊢
  have hBl := block_lt_of_cell hc
  have hBl' : B < w.heap.size := hBl
  have HR := hide (show Rd w R g cap s ts a d0 ∧ a < ts.length ∧ Pp.Alive (left ts a) ∧ B < w.heap.size ∧ B ≠ R ∧ B ≠ g ∧ w.cell? ⟨B, o, none⟩ = some (.slice none 0 0) ∧ w.frozen? ⟨B, o, none⟩ = false from ⟨h, hlt, hl, hBl, nR, ng, hc, hf⟩)
  have HD1 := hide hd1
  obtain ⟨l0, hl0⟩ : ∃ l0, left ts a = l0 := ⟨_, rfl⟩
  have HL0 := hide hl0
  have hne8 : ((d0 : Int) == 8) = false := ne_int (by omega)
  have c2 := h.c2
  have z2 := h.z2
  have hRl := h.rlt
  cases hb : ((Px.hd (left ts a)).2.1 == Pp.tOpen) with
  | false =>
    have hr2 : r = none ∧ m = left ts a := by
      rw [Pp.block, if_neg (by simpa using hb)] at hr
      injection hr with e1 e2; exact ⟨e1.symm, e2.symm⟩
    obtain ⟨rfl, rfl⟩ := hr2
    have HC := hide (skip_any h hl Pp.tOpen false hb)
    clear h hl hc hf hr hlt hd0 hd1 hl0 hBl hb
    go_enter Tryz.func56, Tryz.ntmps56
    go_wp2_with fail
    refine (unhide HC).mono ?_
    rintro e' w1 ⟨rfl, b1, h1⟩
    have HE : Hid (Into R g cap s ts d0 B o (fun w' (x : List St) vs => ∃ v, vs = [v] ∧ StsIn w' w.heap.size w'.heap.size x v) w none (left ts a) (.returned (.bool false)) w1) := hide ⟨rfl, b1.up fun _ _ hi => .inl hi, ⟨d0, by rw [len_left ts a (Nat.le_of_lt (unhide HR).2.1)]; exact h1, fun _ => rfl⟩, fun x hx => by cases hx⟩
    clear b1 h1
    go_wp2_with fail
    go_ret
    exact unhide HE
  | true =>
    have hr2 : Pp.stmts (Pp.stmt (plOf s ts) (Pp.block (plOf s ts) e)) ((left ts a).tail.length + 1) [] (left ts a).tail = (r, m) := by
      rw [Pp.block, if_pos (by simpa using hb)] at hr
      exact hr
    have HF := hide hr2
    have HNE := hide (show (Px.hd (left ts a)).2.1 ≠ [] from fun c => by rw [c] at hb; cases hb)
    have HC := hide (skip_any h hl Pp.tOpen true hb)
    clear h hl hc hf hr hlt hd0 hd1 hl0 hBl hb hr2
    go_enter Tryz.func56, Tryz.ntmps56
    go_wp2_with fail
    refine (unhide HC).mono ?_
    rintro e' w1 ⟨rfl, b1, h1⟩
    have H1 := hide h1
    have B1 := hide b1
    have hR1 := h1.rlt
    obtain ⟨r0, r1, r2, rz1, rz2, -⟩ := h1
    clear b1 HC
    go_wp2_with fail
    go_loopw [5] (fun _ wr => ∃ l ps v, Hid (BlI R g cap s ts (8 - e) B o w wr l ps v) ∧ Hid (∃ f, l.length < f ∧ ps.length + l.length ≤ ts.length ∧ Pp.stmts (Pp.stmt (plOf s ts) (Pp.block (plOf s ts) e)) f (ps.map (·.s)) l = (r, m))) (fun _ wr => 6002 - atOf wr R)
    case atStart =>
      obtain ⟨q1, q2, q3, q4, q5, q6, q7, q8⟩ := unhide HR
      refine ⟨(left ts a).tail, [], .slice none 0 0, hide ?_, hide ⟨_, Nat.lt_succ_self _, by rw [List.length_tail, left_len]; simp only [List.length_nil]; omega, unhide HF⟩⟩
      have hbu : Bu (· = R) w (w1.setCell ⟨R, 2, none⟩ (.int .i64 ((d0 : Int) + 1))) := Bu.set (M := (· = R)) (unhide B1) (.inl rfl) 2 _
      have hB : (w1.setCell ⟨R, 2, none⟩ (.int .i64 ((d0 : Int) + 1))).heap[B]? = w.heap[B]? := hbu.block B q4 q5
      refine ⟨?_, ?_, q3.tail (.inr (unhide HNE)), ⟨?_, fun j _ => World.cell?_of_block (w := w) (a := ⟨B, j, none⟩) hB, fun j => World.frozen?_of_block (w := w) (a := ⟨B, j, none⟩) hB⟩, ?_, ⟨⟨rfl, .inl ⟨rfl, rfl⟩⟩, hbu.size, fun p hp => by cases hp⟩, hbu.up fun _ _ hi => .inl hi, q1.rlt, q4, q1.lt, q5, q6⟩
      · rw [len_tail ts a q2, ← unhide HD1]
        have := (unhide H1).deep (d0 + 1) (by omega)
        exact this
      · rw [len_tail ts a q2, left_tail]
      · intro j v hv
        match j, hv with
        | 0, hv => cases hv; rw [Nat.add_zero, World.cell?_of_block (w := w) (a := ⟨B, o, none⟩) hB]; exact q7
      · rw [World.frozen?_of_block (w := w) (a := ⟨B, o, none⟩) hB]; exact q8
    case round =>
      obtain ⟨l, ps, v, HI, HF⟩ := hrel
      have hI := unhide HI
      clear r0 r1 r2 rz1 rz2
      have hal : Pp.Alive (left ts (ts.length - l.length)) := by rw [hI.eq]; exact hI.al
      cases hb : ((Px.hd l).2.1 == Pp.tShut) with
      | true =>
        have HC := hide (skip_any hI.rd hal Pp.tShut true (by rw [hI.eq]; exact hb))
        have hrm : r = some (ps.map (·.s)) ∧ m = l.tail := by
          obtain ⟨f, hf, -, hs⟩ := unhide HF
          cases f with
          | zero => omega
          | succ f =>
            rw [Pp.stmts, if_pos (by simpa using hb)] at hs
            injection hs with e1 e2; exact ⟨e1.symm, e2.symm⟩
        obtain ⟨rfl, rfl⟩ := hrm
        clear hI hal
        go_wp2_with fail
        refine (unhide HC).mono ?_
        rintro e' w2 ⟨rfl, b2, h2⟩
        have H2 := hide h2
        have B2 := hide b2
        have hR2 := h2.rlt
        obtain ⟨r0, r1, r2, rz1, rz2, -⟩ := h2
        rw [← unhide HD1] at r2
        have r2 : w2.cell? ⟨R, 2, none⟩ = some (.int .i64 ((d0 : Int) + 1)) := r2
        clear b2 HC
        go_wp2_with fail
        go_ret
        have hI := unhide HI
        have hbu : Bu (· = R) wr (w2.setCell ⟨R, 2, none⟩ (.int .i64 (d0 : Int))) := Bu.set (M := (· = R)) (unhide B2) (.inl rfl) 2 _
        have hz := hI.bu.size
        have hle : l.length ≤ ts.length := by have := congrArg List.length hI.eq; rw [left_len] at this; omega
        have hp := hI.al.pos
        refine ⟨rfl, hI.bu.then (hbu.up fun _ _ hi => .inl hi), ⟨d0, ?_, fun _ => rfl⟩, ?_⟩
        · have := (unhide H2).deep d0 (by omega)
          rw [show ts.length - l.tail.length = ts.length - l.length + 1 by rw [List.length_tail]; omega]
          exact this
        · intro x hx
          injection hx with hx
          subst hx
          refine ⟨_, ⟨v, rfl, ?_⟩, hI.put.after (hbu.block B (by have := hI.lB; omega) hI.nR)⟩
          have hO := hI.own.bu hbu fun k hk _ e => by have := hI.lR; omega
          refine hO.sts (fun k hk => ⟨hk.1, hk.2.1⟩) (fun k hk => ?_)
          exact ⟨hO.base_le k hk, (hO.row.lt k hk).2⟩
      | false =>
        have HC := hide (skip_any hI.rd hal Pp.tShut false (by rw [hI.eq]; exact hb))
        have HNS := hide (show (Px.hd l).2.1 ≠ Pp.tShut by simpa using hb)
        have hB8 : B < wr.heap.size := Nat.lt_of_lt_of_le hBl' hI.bu.size
        clear hI hal hb
        go_wp2_with fail
        refine (unhide HC).mono ?_
        rintro e' w2 ⟨rfl, b2, h2⟩
        have hI := unhide HI
        have hI2 : BlI R g cap s ts (8 - e) B o w w2 l ps v := hI.next (Bs := wr.heap.size) (Nat.le_refl _) (b2.up fun _ _ hi => .inl hi) (by simpa using h2) (List.suffix_refl _) hI.al
        have HI2 := hide hI2
        have hz2 := b2.size
        obtain ⟨r3, m3, h3⟩ : ∃ r3 m3, Pp.stmt (plOf s ts) (Pp.block (plOf s ts) e) l = (r3, m3) := ⟨_, _, rfl⟩
        have H3 := hide h3
        have hAt : AtB R g cap s ts (8 - e) w2.heap.size (w2.alloc (.cells #[.int .i64 0, .string ⟨#[]⟩, .string ⟨#[]⟩, .int .i64 0, .int .i64 0, .int .i64 0, .string ⟨#[]⟩, .slice none 0 0, .slice none 0 0, .slice none 0 0, .complex .f64 0 0] 46)) l (z11 0 0 0) :=
          ⟨hI2.rd.kept ((Kept.refl _).al _), hI2.eq, hI2.al, z11_box w2, by have := hI2.rd.rlt; omega, by have := hI2.rd.lt; omega⟩
        have HC2 := hide (unhide HS R g cap w2.heap.size s ts _ l hAt r3 m3 h3)
        clear hI hI2 h2 b2 HC hAt h3
        go_wp2_with fail
        refine (unhide HC2).mono ?_
        rintro e' w3 ⟨rfl, b3, h3r, h3v⟩
        have k2 : Kept w2 (w2.alloc (.cells #[.int .i64 0, .string ⟨#[]⟩, .string ⟨#[]⟩, .int .i64 0, .int .i64 0, .int .i64 0, .string ⟨#[]⟩, .slice none 0 0, .slice none 0 0, .slice none 0 0, .complex .f64 0 0] 46)) := (Kept.refl _).al _
        have b23 : Bu (RB R w2.heap.size) w2 w3 := (Bu.of k2).then b3
        have hkeep := Pp.stmt_keeps (plOf s ts) (Pp.block_keeps (plOf s ts) e) l (unhide HI2).al
        have heat := Pp.stmt_eats (plOf s ts) (Pp.block_keeps (plOf s ts) e) l
        rw [unhide H3] at hkeep
        cases r3 with
        | none =>
          have hrm : r = none ∧ m = m3 := by
            obtain ⟨f, hf, -, hs⟩ := unhide HF
            cases f with
            | zero => omega
            | succ f =>
              rw [Pp.stmts, if_neg (unhide HNS), unhide H3] at hs
              injection hs with e1 e2; exact ⟨e1.symm, e2.symm⟩
          obtain ⟨rfl, rfl⟩ := hrm
          obtain ⟨d', h3d⟩ := h3r
          have HE : Hid (Into R g cap s ts d0 B o (fun w' (x : List St) vs => ∃ v, vs = [v] ∧ StsIn w' w.heap.size w'.heap.size x v) w none m (.returned (.bool false)) w3) := hide ⟨rfl, (unhide HI2).bu.then (b23.up fun i hi hm => hm.elim .inl fun c => by omega), ⟨d', h3d, fun c => by cases c⟩, fun x hx => by cases hx⟩
          clear b3 h3v h3d b23 k2 hkeep heat HC2
          go_wp2_with fail
          go_ret
          exact unhide HE
        | some x =>
          obtain ⟨ev, bv, lv, hA3, hIn⟩ := h3v x rfl
          have hI3 : BlI R g cap s ts (8 - e) B o w w3 m3 ps v := (unhide HI2).next (Nat.le_refl _) b23 hA3.rd hkeep.1 hkeep.2
          have hFar : (Item.mk x ev bv lv).InD w3 (Far w.heap.size w3 v) := hIn.mono fun k hk => by
            have h1 := hk.1
            have h2 := k2.size
            have h3 := (unhide HI2).bu.size
            refine ⟨by omega, hk.2, fun c => ?_⟩
            have h4 := ((unhide HI2).own.row.lt k c.symm).2
            have h5 : (w2.alloc (.cells #[.int .i64 0, .string ⟨#[]⟩, .string ⟨#[]⟩, .int .i64 0, .int .i64 0, .int .i64 0, .string ⟨#[]⟩, .slice none 0 0, .slice none 0 0, .slice none 0 0, .complex .f64 0 0] 46)).heap.size = w2.heap.size + 1 := by simp
            omega
          obtain ⟨av, cv, rfl, hslc⟩ := own_slice hI3.own.row
          obtain ⟨a1, n1, q1, rfl⟩ := hIn.e.form
          obtain ⟨a2, n2, q2, rfl⟩ := hIn.b.form
          obtain ⟨a3, n3, q3, rfl⟩ := hIn.l.form
          have HI3 := hide hI3
          have HFar := hide hFar
          have HHF : Hid (∃ f, m3.length < f ∧ (ps.length + 1) + m3.length ≤ ts.length ∧ Pp.stmts (Pp.stmt (plOf s ts) (Pp.block (plOf s ts) e)) f (ps.map (·.s) ++ [x]) m3 = (r, m)) := by
            obtain ⟨f, hf, hps, hs⟩ := unhide HF
            have hlen := heat x m3 (unhide HI2).al (unhide H3)
            cases f with
            | zero => omega
            | succ f =>
              rw [Pp.stmts, if_neg (unhide HNS), unhide H3] at hs
              exact hide ⟨f, by omega, by omega, hs⟩
          have HLT := hide (heat x m3 (unhide HI2).al (unhide H3))
          have hnb : ps.length ≤ 6001 := by
            obtain ⟨f, hf, hps, hs⟩ := unhide HHF
            have := hI3.rd.few
            omega
          have hcv : ps.length ≤ cv := hslc.le
          have cB := hI3.cell
          have fB := hI3.fz
          have hB3 : B < w3.heap.size := block_lt_of_cell cB
          have hS3 : w2.heap.size < w3.heap.size := hA3.box.lt
          have c0 := hA3.box.cell 0 rfl
          have c1 := hA3.box.cell 1 rfl
          have c2 := hA3.box.cell 2 rfl
          have c3 := hA3.box.cell 3 rfl
          have c4 := hA3.box.cell 4 rfl
          have c5 := hA3.box.cell 5 rfl
          have c6 := hA3.box.cell 6 rfl
          have c7 := hA3.box.cell 7 rfl
          have c8 := hA3.box.cell 8 rfl
          have c9 := hA3.box.cell 9 rfl
          have c10 := hA3.box.cell 10 rfl
          have hSB : w2.heap.size ≠ B := by have := (unhide HI2).lB; have := (unhide HI2).bu.size; omega
          clear b3 h3r h3v b23 k2 hkeep heat HC2 hI3 hFar hA3 hIn hslc
          go_wp2_with fail
          go_region
          all_goals
            first
            | obtain ⟨W4, hW4⟩ : ∃ W4, (w3.alloc (.cells #[.bool false] 4)).drew = W4 := ⟨_, rfl⟩
              rw [hW4]
            | obtain ⟨W4, hW4⟩ : ∃ W4, (w3.alloc (.cells #[.bool true] 4)).drew = W4 := ⟨_, rfl⟩
              rw [hW4]
            have k34 : Kept w3 W4 := by rw [← hW4]; exact ((Kept.refl _).al _).dr
            have hI4 : BlI R g cap s ts (8 - e) B o w W4 m3 ps (.slice av ps.length cv) := (unhide HI3).next (Nat.le_refl _) (Bu.of k34) ((unhide HI3).rd.kept k34) (List.suffix_refl _) (unhide HI3).al
            have hF4 : (Item.mk x (.slice a1 n1 q1) (.slice a2 n2 q2) (.slice a3 n3 q3)).InD W4 (Far w.heap.size W4 (.slice av ps.length cv)) := ((unhide HFar).stays fun k hk => k34.block k hk.2.1).mono fun k hk => ⟨hk.1, Nat.lt_of_lt_of_le hk.2.1 k34.size, hk.2.2⟩
            replace c0 := k34.cellS c0
            replace c1 := k34.cellS c1
            replace c2 := k34.cellS c2
            replace c3 := k34.cellS c3
            replace c4 := k34.cellS c4
            replace c5 := k34.cellS c5
            replace c6 := k34.cellS c6
            replace c7 := k34.cellS c7
            replace c8 := k34.cellS c8
            replace c9 := k34.cellS c9
            replace c10 := k34.cellS c10
            replace cB := k34.cellS cB
            replace fB := hI4.fz
            replace hB3 := block_lt_of_cell cB
            replace hS3 := block_lt_of_cell c0
            have HI4 := hide hI4
            have HF4 := hide hF4
            clear hW4 k34 hI4 hF4
          · have HOW : Hid (OwnK (W4.alloc (.cells #[.int .i64 x.kind, .string x.name, .string x.other, .int .i64 x.n, .int .i64 x.e.kind, .int .i64 x.e.n, .string x.e.name, .slice a1 n1 q1, .slice a2 n2 q2, .slice a3 n3 q3, .complex .f64 x.re x.im] 46)) w.heap.size (Far w.heap.size W4 (.slice av ps.length cv)) ps (.slice av ps.length cv)) := hide ((unhide HI4).own.kept ((Kept.refl _).al _) fun i hi => hi.2.1)
            go_wp2_with fail
            go_region_law ((refine step_append_rows (base := w.heap.size) (n := ps.length) (xs := itCells ps) (by rfl) _ _ _ (by rfl) elemSt (by rfl) (unhide HOW).row (by rfl) (own_lit 0 46 11 _ (by rfl) (Nat.zero_le _)) (by exact St.cells_one x a1 a2 a3 n1 n2 n3 q1 q2 q3) (by omega) (by unfold maxLen; omega) (unhide HOW).le ?_; intro ad cp wa HG; obtain ⟨cBa, fBa⟩ := (unhide HI4).cellA ((Kept.refl _).al _).dr (unhide HG)))
            all_goals
              have HE := hide ((unhide HI4).oneway ((Kept.refl _).al _).dr (unhide HF4) (unhide HG))
              clear cBa fBa
              go_wp2_with fail
              refine ⟨⟨m3, ps ++ [⟨x, .slice a1 n1 q1, .slice a2 n2 q2, .slice a3 n3 q3⟩], _, HE, ?_⟩, ?_⟩
              · obtain ⟨f, h1, h2, h3⟩ := unhide HHF
                exact hide ⟨f, h1, by rw [List.length_append, List.length_singleton]; exact h2, by rw [List.map_append]; exact h3⟩
              · exact (unhide HI).less (unhide HE) (unhide HLT)
          · have HOW : Hid (OwnK (W4.alloc (.cells #[.int .i64 0, .string ⟨#[]⟩, .string ⟨#[]⟩, .int .i64 0, .int .i64 0, .int .i64 0, .string ⟨#[]⟩, .slice none 0 0, .slice none 0 0, .slice none 0 0, .complex .f64 0 0] 46)) w.heap.size (Far w.heap.size W4 (.slice av ps.length cv)) ps (.slice av ps.length cv)) := hide ((unhide HI4).own.kept ((Kept.refl _).al _) fun i hi => hi.2.1)
            have hSo : some w2.heap.size ≠ (Value.slice av ps.length cv).ownBlock := fun c => by
              have h1 := ((unhide HI2).own.row.lt w2.heap.size c.symm).2
              omega
            have HSo := hide hSo
            clear hSo
            go_wp2_with (at_builtin; refine wpList_append_rows (base := w.heap.size) (n := ps.length) (xs := itCells ps) (by rfl) _ _ _ (by rfl) elemSt (by rfl) (unhide HOW).row (by rfl) (own_lit 0 46 11 _ (by rfl) (Nat.zero_le _)) ?one (by omega) ?len (unhide HOW).le ?_)
            case one => (repeat' apply And.intro) <;> rfl
            case len => unfold maxLen; omega
            intro ad cp wa HG
            obtain ⟨g2, cp2, e2, hb2, hlt2⟩ := (unhide HG).own.form (by omega)
            obtain rfl : ad = some ⟨g2, 0, none⟩ := by injection e2
            have hg2B : g2 ≠ B := by have := (unhide HI4).lB; omega
            obtain ⟨cBa, fBa⟩ := (unhide HI4).cellA ((Kept.refl _).al _) (unhide HG)
            have hSb : wa.heap[w2.heap.size]? = W4.heap[w2.heap.size]? := (unhide HI4).far ((Kept.refl _).al _) (unhide HG) hS3 (unhide HSo)
            replace c0 := (World.cell?_of_block (w := W4) (a := ⟨w2.heap.size, 0, none⟩) hSb).trans c0
            replace c1 := (World.cell?_of_block (w := W4) (a := ⟨w2.heap.size, 1, none⟩) hSb).trans c1
            replace c2 := (World.cell?_of_block (w := W4) (a := ⟨w2.heap.size, 2, none⟩) hSb).trans c2
            replace c3 := (World.cell?_of_block (w := W4) (a := ⟨w2.heap.size, 3, none⟩) hSb).trans c3
            replace c4 := (World.cell?_of_block (w := W4) (a := ⟨w2.heap.size, 4, none⟩) hSb).trans c4
            replace c5 := (World.cell?_of_block (w := W4) (a := ⟨w2.heap.size, 5, none⟩) hSb).trans c5
            replace c6 := (World.cell?_of_block (w := W4) (a := ⟨w2.heap.size, 6, none⟩) hSb).trans c6
            replace c7 := (World.cell?_of_block (w := W4) (a := ⟨w2.heap.size, 7, none⟩) hSb).trans c7
            replace c8 := (World.cell?_of_block (w := W4) (a := ⟨w2.heap.size, 8, none⟩) hSb).trans c8
            replace c9 := (World.cell?_of_block (w := W4) (a := ⟨w2.heap.size, 9, none⟩) hSb).trans c9
            replace c10 := (World.cell?_of_block (w := W4) (a := ⟨w2.heap.size, 10, none⟩) hSb).trans c10
            have HTH : Hid ((wa.setCell ⟨B, o, none⟩ (.slice (some ⟨g2, 0, none⟩) (ps.length + 1) cp)).there g2 (ps.length * 11) 11) := hide fun j hj => by
              have h1 := own_zero rfl (unhide HG) j hj (List.getElem?_eq_getElem (by exact hj))
              have h2 := (unhide HG).own.frozenAt (ps.length * 11 + j)
              rw [World.cell?_setCell_other wa _ _ _ (addr_nb (Ne.symm hg2B)), h1, World.frozen?_setCell, h2]
              exact ⟨rfl, rfl⟩
            have HE1 := hide ((unhide HI4).oneway ((Kept.refl _).al _) (p := ⟨st0, .slice none 0 0, .slice none 0 0, .slice none 0 0⟩) ⟨ExsD.nil _ _, StsD.nil _ _, StsD.nil _ _⟩ (unhide HG))
            have HE2 := hide ((unhide HI4).item ((Kept.refl _).al _) (unhide HG) (unhide HF4) (.slice (some ⟨g2, 0, none⟩) (ps.length + 1) cp))
            have hnn : (0 : Int) ≤ (ps.length : Int) := by omega
            clear e2 hSb HOW
            go_wp2_with (refine wpList_store_mid (by rfl) _ _ _ (by rfl) g2 (ps.length * 11) #[.int .i64 x.kind, .string x.name, .string x.other, .int .i64 x.n, .int .i64 x.e.kind, .int .i64 x.e.n, .string x.e.name, .slice a1 n1 q1, .slice a2 n2 q2, .slice a3 n3 q3, .complex .f64 x.re x.im] (by rfl) (by rfl) (unhide HTH) esizeSt (all_oneCell_toArray (St.cells_one x a1 a2 a3 n1 n2 n3 q1 q2 q3)) ?_)
            have hcells : (Item.mk x (.slice a1 n1 q1) (.slice a2 n2 q2) (.slice a3 n3 q3)).cells = [.int .i64 x.kind, .string x.name, .string x.other, .int .i64 x.n, .int .i64 x.e.kind, .int .i64 x.e.n, .string x.e.name, .slice a1 n1 q1, .slice a2 n2 q2, .slice a3 n3 q3, .complex .f64 x.re x.im] := rfl
            have h5 := (unhide HE1).setway (unhide HE2)
            rw [hcells] at h5
            have HE := hide h5
            clear h5 hcells
            refine ⟨⟨_, _, _, _, _, _, _, _, _, _, _, _, _, _, _, _, _, _, _, _, _, _, _, _, _, _, _, ⟨m3, ps ++ [⟨x, .slice a1 n1 q1, .slice a2 n2 q2, .slice a3 n3 q3⟩], _, HE, ?_⟩, rfl⟩, ?_⟩
            · obtain ⟨f, h1, h2, h3⟩ := unhide HHF
              exact hide ⟨f, h1, by rw [List.length_append, List.length_singleton]; exact h2, by rw [List.map_append]; exact h3⟩
            · exact (unhide HI).less (unhide HE) (unhide HLT)

theorem block_any : ∀ e, e ≤ 8 → PB e := by
  intro e
  induction e with
  | zero =>
    intro _ R g cap s ts a B o w h hl hc hf nR ng r m hr
    have hr2 : r = none ∧ m = left ts a := by
      rw [Pp.block] at hr
      injection hr with e1 e2; exact ⟨e1.symm, e2.symm⟩
    obtain ⟨rfl, rfl⟩ := hr2
    have c2 := h.c2
    have hRl := h.rlt
    have HE : Hid (Into R g cap s ts 8 B o (fun w' (x : List St) vs => ∃ v, vs = [v] ∧ StsIn w' w.heap.size w'.heap.size x v) w none (left ts a) (.returned (.bool false)) w) := hide ⟨rfl, Bu.refl _ _, ⟨8, by rw [len_left ts a (Nat.le_of_lt (alive_lt hl))]; exact h, fun _ => rfl⟩, fun x hx => by cases hx⟩
    have c2 : w.cell? ⟨R, 2, none⟩ = some (.int .i64 8) := c2
    clear h hl hc hf hr
    go_enter Tryz.func56, Tryz.ntmps56
    go_wp2_with fail
    go_ret
    exact unhide HE
  | succ e ih =>
    intro he
    exact block_of e (by omega) (ih (by omega))
end Go.Proofs.YtkobdephobaopaaGreatDoor
