/- PaC -/
import Derived.Test.YtnfkjmafhaecgaaYPaB
import Derived.OneCell
import Derived.Deep.RegionWith
import Derived.Deep.RegionLaw

namespace Go.Proofs.Ytnfkjmafhaecgaa
open Go.RowKit
attribute [local go_sem] run_store_complex
attribute [local go_sem ↓] Go.wp_at_zero Go.wp_at_succ
/-- An append of rows, at a step of a region that draws its order. -/
theorem step_append_rows {P : Program} {w : World} {ops : Array Oper} {o : Oper} {a : Act} {K : Act → World → Prop} {Q : Exit → Act → World → Prop} {E' : Prop} (hgd : o.guard = none) (s x : Operand) (t : TypeId)
    (ho : o.op = .call { callee := .builtin .append, args := #[s, x], argTypes := #[t, t] })
    {e : TypeId} {z : Value} {size bytes : Nat} (E : ElemOf P t e z size bytes) {base : Nat} {v : Value} {n : Nat} {xs : List Value} (hs : a.eval s = v) (hown : w.ownsRow base e size v n xs)
    {base' : Nat} {vs : Value} {m : Nat} {news : List Value} (hx : a.eval x = vs) (hsrc : w.ownsRow base' e size vs m news) (h1 : ∀ u ∈ news, u.oneCell' = true) (hb : (n + m) * bytes ≤ 140737488355328) (h63 : n + m ≤ maxLen) (hbase : base ≤ w.heap.size)
    (h : ∀ ad cap w', Hid (Grew w base e size v n xs m news (.slice ad (n + m) cap) w') → K (a.put o.dst (.slice ad (n + m) cap)) w') : if Region.wanted o (yielded ops a.tmps) = true then Oper.wp P o a w K Q else E' := by
  have hw : Region.wanted o (yielded ops a.tmps) = true := by simp [Region.wanted, hgd]
  rw [if_pos hw]
  obtain ⟨v', w', hr, hG⟩ := run_append_rows E o.type hown hsrc h1 hb h63 hbase
  obtain ⟨ad, cap, rfl, _⟩ := own_slice hG.own
  unfold Oper.wp execOp
  simp only [ho, resolve, invoke, builtin, Sem.run_bind, Sem.run_pure, Result.andThen_ok, List.map_toArray, List.map_cons, List.map_nil, hs, hx, hr]
  exact h ad cap w' hG
theorem own_last {w : World} {base e size g n cap : Nat} : ∀ (cs zs xs : List Value), cs.length = zs.length → w.ownsRow base e size (.slice (some ⟨g, 0, none⟩) n cap) n (xs ++ zs) →
    (w.setCells g xs.length cs).ownsRow base e size (.slice (some ⟨g, 0, none⟩) n cap) n (xs ++ cs) := by
  intro cs
  induction cs generalizing w with
  | nil => intro zs xs hl h; cases zs with
    | nil => exact h
    | cons z zs => simp at hl
  | cons c cs ih =>
    intro zs xs hl h
    cases zs with
    | nil => simp at hl
    | cons z zs =>
      have h1 := (h.stored xs.length c).1
      have e1 : (xs ++ z :: zs).set xs.length c = (xs ++ [c]) ++ zs := by simp
      rw [e1] at h1
      have h2 := ih zs (xs ++ [c]) (by simpa using hl) h1
      rw [List.length_append, List.length_singleton] at h2
      rw [show xs ++ c :: cs = xs ++ [c] ++ cs by simp]
      exact h2
/-- The last item is set. -/
theorem OwnK.last {w : World} {base g n cap : Nat} {ps : List Item} {q p : Item} (h : OwnK w base (Far base w (.slice (some ⟨g, 0, none⟩) n cap)) (ps ++ [q]) (.slice (some ⟨g, 0, none⟩) n cap)) (hp : p.InD w (Far base w (.slice (some ⟨g, 0, none⟩) n cap))) :
    OwnK (w.setCells g (ps.length * 11) p.cells) base (Far base (w.setCells g (ps.length * 11) p.cells) (.slice (some ⟨g, 0, none⟩) n cap)) (ps ++ [p]) (.slice (some ⟨g, 0, none⟩) n cap) := by
  have hst : StaysD (Far base w (.slice (some ⟨g, 0, none⟩) n cap)) w (w.setCells g (ps.length * 11) p.cells) := fun k hk => heap_setCells _ _ _ _ k fun e => hk.2.2 (by rw [e]; rfl)
  have hsz : (w.setCells g (ps.length * 11) p.cells).heap.size = w.heap.size := size_setCells ..
  have hup : ∀ k, Far base w (.slice (some ⟨g, 0, none⟩) n cap) k → Far base (w.setCells g (ps.length * 11) p.cells) (.slice (some ⟨g, 0, none⟩) n cap) k := fun k hk => ⟨hk.1, by rw [hsz]; exact hk.2.1, hk.2.2⟩
  refine ⟨?_, by rw [hsz]; exact h.le, fun x hx => ?_⟩
  · have hn : (ps ++ [q]).length = (ps ++ [p]).length := by simp
    have hr := h.row
    rw [hn] at hr
    have hn2 : n = (ps ++ [p]).length := by
      obtain ⟨a', c', e1, _⟩ := own_slice hr
      injection e1
    rw [itCells_append] at hr ⊢
    rw [hn2] at hr ⊢
    have := own_last p.cells (itCells [q]) (itCells ps) (by rw [itCells_one]; rfl) hr
    rw [itCells_len] at this
    rw [itCells_one]
    exact this
  · rcases List.mem_append.1 hx with hx | hx
    · exact ((h.kids x (List.mem_append_left _ hx)).stays hst).mono hup
    · obtain rfl : x = p := by simpa using hx
      exact (hp.stays hst).mono hup
/-- Turned elsewhere. -/
theorem OwnK.bu {M : Nat → Prop} {w w' : World} {base : Nat} {ps : List Item} {v : Value} (h : OwnK w base (Far base w v) ps v) (b : Bu M w w') (hM : ∀ k, base ≤ k → k < w.heap.size → ¬ M k) : OwnK w' base (Far base w' v) ps v := by
  have hst : StaysD (Far base w v) w w' := fun k hk => b.block k hk.2.1 (hM k hk.1 hk.2.1)
  refine ⟨?_, Nat.le_trans h.le b.size, fun p hp => ((h.kids p hp).stays hst).mono fun k hk => ⟨hk.1, Nat.lt_of_lt_of_le hk.2.1 b.size, hk.2.2⟩⟩
  refine ⟨h.row.1, ?_⟩
  rcases h.row.2 with h0 | ⟨g, cap, cur, e, hb, hg, r⟩
  · exact .inl h0
  · have hlt : g < w.heap.size := by
      rcases Nat.lt_or_ge g w.heap.size with c | c
      · exact c
      · rw [Array.getElem?_eq_none (by omega)] at hg; cases hg
    exact .inr ⟨g, cap, cur, e, hb, (b.block g hlt (hM g hb hlt)).trans hg, r⟩
theorem Rd.off {w w' : World} {R g cap : Nat} {s : ByteArray} {ts : List Lx.Tk} {a d : Nat} (h : Rd w R g cap s ts a d) (eR : w'.heap[R]? = w.heap[R]?) (eg : w'.heap[g]? = w.heap[g]?) (hs : w.heap.size ≤ w'.heap.size) : Rd w' R g cap s ts a d :=
  ⟨by rw [World.cell?_of_block (w := w) (a := ⟨R, 0, none⟩) eR]; exact h.c0, by rw [World.cell?_of_block (w := w) (a := ⟨R, 1, none⟩) eR]; exact h.c1, by rw [World.cell?_of_block (w := w) (a := ⟨R, 2, none⟩) eR]; exact h.c2,
   by rw [World.frozen?_of_block (w := w) (a := ⟨R, 1, none⟩) eR]; exact h.z1, by rw [World.frozen?_of_block (w := w) (a := ⟨R, 2, none⟩) eR]; exact h.z2,
   ⟨fun j hj => by rw [World.cell?_of_block (w := w) (a := ⟨g, j, none⟩) eg]; exact h.row.cells j hj⟩, h.ne, Nat.lt_of_lt_of_le h.lt hs, h.few, h.le, h.sh⟩
/-- Where block stands before a round. -/
structure BlI (R g cap : Nat) (s : ByteArray) (ts : List Lx.Tk) (d B o : Nat) (w wr : World) (l : List Lx.Core) (ps : List Item) (v : Value) : Prop where
  rd : Rd wr R g cap s ts (ts.length - l.length) d
  eq : left ts (ts.length - l.length) = l
  al : Pp.Alive l
  put : Put B o [v] w wr
  fz : wr.frozen? ⟨B, o, none⟩ = false
  own : OwnK wr w.heap.size (Far w.heap.size wr v) ps v
  bu : Bu (RB R B) w wr
  lR : R < w.heap.size
  lB : B < w.heap.size
  lg : g < w.heap.size
  nR : B ≠ R
  ng : B ≠ g
section
variable {R g cap : Nat} {s : ByteArray} {ts : List Lx.Tk} {d B o : Nat} {w wr w2 : World} {l m : List Lx.Core} {ps : List Item} {v : Value}
theorem BlI.cell (h : BlI R g cap s ts d B o w wr l ps v) : wr.cell? ⟨B, o, none⟩ = some v := by have := h.put.cells 0 v rfl; rwa [Nat.add_zero] at this
/-- Another round's call, which turns the reader alone, and makes memory. -/
theorem BlI.next (h : BlI R g cap s ts d B o w wr l ps v) {Bs : Nat} (hBs : wr.heap.size ≤ Bs) (b : Bu (RB R Bs) wr w2) (rd : Rd w2 R g cap s ts (ts.length - m.length) d) (hs : m <:+ l) (ha : Pp.Alive m) : BlI R g cap s ts d B o w w2 m ps v := by
  have hz := h.bu.size
  have hB : w2.heap[B]? = wr.heap[B]? := b.block B (by have := h.lB; omega) (fun c => c.elim (fun e => h.nR e) (fun e => by have := h.lB; omega))
  refine ⟨rd, suf_left (a := ts.length - l.length) (by rw [h.eq]; exact hs), ha, h.put.after hB, by rw [World.frozen?_of_block (w := wr) (a := ⟨B, o, none⟩) hB]; exact h.fz, h.own.bu b ?_, ?_, h.lR, h.lB, h.lg, h.nR, h.ng⟩
  · rintro k h1 h2 (e | e)
    · have := h.lR; omega
    · omega
  · refine h.bu.then (b.up ?_)
    rintro i hi (e | e)
    · exact .inl e
    · omega
/-- Behind the append. -/
theorem BlI.grown (h : BlI R g cap s ts d B o w wr l ps v) {wf : World} {p : Item} {v' : Value} (b : Bu (fun k => some k = v.ownBlock ∨ k = B) wr wf) (hp : Put B o [v'] wr wf) (hO : OwnK wf w.heap.size (Far w.heap.size wf v') (ps ++ [p]) v') : BlI R g cap s ts d B o w wf l (ps ++ [p]) v' := by
  have hown : ∀ k, some k = v.ownBlock → w.heap.size ≤ k := fun k e => h.own.base_le k e.symm
  have hz := h.bu.size
  have eR : wf.heap[R]? = wr.heap[R]? := b.block R (by have := h.lR; omega) (fun c => c.elim (fun e => by have := hown _ e; have := h.lR; omega) (fun e => h.nR e.symm))
  have eg : wf.heap[g]? = wr.heap[g]? := b.block g (by have := h.lg; omega) (fun c => c.elim (fun e => by have := hown _ e; have := h.lg; omega) (fun e => h.ng e.symm))
  refine ⟨h.rd.off eR eg b.size, h.eq, h.al, ⟨hp.cells, fun j hj => (hp.others j hj).trans (h.put.others j hj), fun j => (hp.fz j).trans (h.put.fz j)⟩, (hp.fz o).trans h.fz, hO, ?_, h.lR, h.lB, h.lg, h.nR, h.ng⟩
  refine ⟨b.os.trans h.bu.os, b.tape.trans h.bu.tape, b.output.trans h.bu.output, Nat.le_trans hz b.size, fun k hk hn => ?_⟩
  rw [b.block k (by omega) ?_]
  · exact h.bu.block k hk hn
  · rintro (e | e)
    · have := hown _ e; omega
    · exact hn (.inr e)
theorem BlI.far (_ : BlI R g cap s ts d B o w wr l ps v) {wa W : World} (k1 : Kept wr W) {cs : List Value} {v' : Value} (hG : Grew W w.heap.size 46 11 v ps.length (itCells ps) 1 cs v' wa) {k : Nat} (hk : k < wr.heap.size) (hn : some k ≠ v.ownBlock) : wa.heap[k]? = wr.heap[k]? := by
  exact (hG.grown.block k (by have := k1.size; omega) hn).trans (k1.block k hk)
theorem BlI.cellA (h : BlI R g cap s ts d B o w wr l ps v) {wa W : World} (k1 : Kept wr W) {cs : List Value} {v' : Value} (hG : Grew W w.heap.size 46 11 v ps.length (itCells ps) 1 cs v' wa) : wa.cell? ⟨B, o, none⟩ = some v ∧ wa.frozen? ⟨B, o, none⟩ = false := by
  have hB : wa.heap[B]? = wr.heap[B]? := h.far k1 hG (by have := h.lB; have := h.bu.size; omega) fun e => by have := h.own.base_le B e.symm; have := h.lB; omega
  rw [World.cell?_of_block (w := wr) (a := ⟨B, o, none⟩) hB, World.frozen?_of_block (w := wr) (a := ⟨B, o, none⟩) hB]
  exact ⟨h.cell, h.fz⟩
theorem BlI.item (h : BlI R g cap s ts d B o w wr l ps v) {wa W : World} (k1 : Kept wr W) {cs : List Value} {v' : Value} (hG : Grew W w.heap.size 46 11 v ps.length (itCells ps) 1 cs v' wa) {p : Item} (hp : p.InD wr (Far w.heap.size wr v)) (u : Value) : p.InD (wa.setCell ⟨B, o, none⟩ u) (Far w.heap.size (wa.setCell ⟨B, o, none⟩ u) v') := by
  have hg := hG.grow
  have h1 : p.InD W (Far w.heap.size W v) := (hp.stays fun k hk => k1.block k hk.2.1).mono fun k hk => ⟨hk.1, Nat.lt_of_lt_of_le hk.2.1 k1.size, hk.2.2⟩
  have h2 := (h1.stays (hg.stays w.heap.size)).mono (hg.far w.heap.size)
  refine (h2.stays fun k hk => heap_setCells B [_] o wa k (by have := hk.1; have := h.lB; omega)).mono fun k hk => ⟨hk.1, by rw [setCell_size]; exact hk.2.1, hk.2.2⟩
end
end Go.Proofs.Ytnfkjmafhaecgaa
namespace Go.Proofs.Ytnfkjmafhaecgaa
open Go.RowKit
attribute [local go_sem] run_store_complex
attribute [local go_sem ↓] Go.wp_at_zero Go.wp_at_succ
end Go.Proofs.Ytnfkjmafhaecgaa
