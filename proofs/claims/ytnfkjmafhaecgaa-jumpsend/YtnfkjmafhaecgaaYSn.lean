/- Pm Po Sn -/
import Derived.Test.YtnfkjmafhaecgaaYPaD
import Derived.Deep.RegionWith
import Derived.Laws.ResultCell

namespace Go.Proofs.Ytnfkjmafhaecgaa
open Go.RowKit
attribute [local go_sem] run_store_complex
attribute [local go_sem ↓] Go.wp_at_zero Go.wp_at_succ
/-- What program leaves. -/
def GotP (R g cap : Nat) (s : ByteArray) (ts : List Lx.Tk) (w : World) (r : Option (List Dc × List (List St))) (m : List Lx.Core) (e : Ending) (w' : World) : Prop :=
  ∃ (a1 : Option Addr) (n1 q1 : Nat) (a2 : Option Addr) (n2 q2 : Nat), e = .returned (.tuple #[.agg #[.slice a1 n1 q1, .slice a2 n2 q2], .bool r.isSome]) ∧ Bu (· = R) w w' ∧ (∃ d', Rd w' R g cap s ts (ts.length - m.length) d') ∧
    ∀ d t, r = some (d, t) → DsIn w' w.heap.size w'.heap.size d (.slice a1 n1 q1) ∧ TsIn w' w.heap.size w'.heap.size t (.slice a2 n2 q2)
theorem esizePr : (Try.prog.info? 27).map (·.size) = some 2 := by kernel_rfl
def W2 (w : World) : World := (w.alloc (.cells #[.slice none 0 0, .slice none 0 0] 27)).alloc (.cells #[.slice none 0 0, .slice none 0 0] 27)
theorem W2_kept (w : World) : Kept w (W2 w) := ((Kept.refl _).al _).al _
theorem W2_size (w : World) : (W2 w).heap.size = w.heap.size + 2 := by unfold W2; simp
theorem W2_box (w : World) : BoxS (W2 w) w.heap.size [.slice none 0 0, .slice none 0 0] ∧ BoxS (W2 w) (w.heap.size + 1) [.slice none 0 0, .slice none 0 0] := by
  unfold W2
  constructor
  · refine ⟨fun j v hv => ?_, fun j => by simp, by simp; omega⟩
    rw [Nat.zero_add]
    match j, hv with
    | 0, hv => cases hv; simp
    | 1, hv => cases hv; simp
  · refine ⟨fun j v hv => ?_, fun j => by simp, by simp⟩
    rw [Nat.zero_add]
    match j, hv with
    | 0, hv => cases hv; simp
    | 1, hv => cases hv; simp
theorem bu_low {R : Nat} {w wr : World} (b : Bu (RB R (w.heap.size + 1)) (W2 w) wr) : Bu (· = R) w wr := by
  have k := W2_kept w
  have hz := W2_size w
  exact ⟨b.os.trans k.os, b.tape.trans k.tape, b.output.trans k.output, Nat.le_trans k.size b.size, fun i hi hn => (b.block i (by omega) fun c => c.elim hn fun e => by omega).trans (k.block i hi)⟩
theorem box_res {R : Nat} {w wr : World} (hR : R < w.heap.size) (b : Bu (RB R (w.heap.size + 1)) (W2 w) wr) : BoxS wr w.heap.size [.slice none 0 0, .slice none 0 0] :=
  (W2_box w).1.off (b.block _ (by rw [W2_size]; omega) fun c => c.elim (fun e => by omega) fun e => by omega) b.size
/-- Where it fails. -/
theorem GotP.fail {R g cap : Nat} {s : ByteArray} {ts : List Lx.Tk} {w wr : World} {m : List Lx.Core} (hR : R < w.heap.size) (hg : g < w.heap.size) (b : Bu (RB R (w.heap.size + 1)) (W2 w) wr) (hd : ∃ d', Rd wr R g cap s ts (ts.length - m.length) d') :
    GotP R g cap s ts w none m (.returned (.tuple #[.agg #[.slice none 0 0, .slice none 0 0], .bool false])) (wr.setCells w.heap.size 0 [.slice none 0 0, .slice none 0 0]) ∧ (wr.setCells w.heap.size 0 [.slice none 0 0, .slice none 0 0]).rangeAt w.heap.size 0 [.slice none 0 0, .slice none 0 0] := by
  obtain ⟨d', h⟩ := hd
  refine ⟨⟨none, 0, 0, none, 0, 0, rfl, (bu_low b).sets (.inr (Nat.le_refl _)) _ _, ⟨d', h.sets (by omega) (by omega) _ _⟩, fun d t c => by cases c⟩, ?_⟩
  exact World.rangeAt_setCells_same _ _ _ _ ((box_res hR b).there 0 2 (by decide))
/-- Where it ends. -/
theorem GotP.done {R g cap : Nat} {s : ByteArray} {ts : List Lx.Tk} {w w1 wr wf : World} {l : List Lx.Core} {ds : List Dc} {a1 : Option Addr} {n1 q1 : Nat} {a2 : Option Addr} {n2 q2 : Nat} {ps : List (List St × Value)} (hR : R < w.heap.size) (hg : g < w.heap.size) (h : PrT R g cap s ts (w.heap.size + 1) (W2 w) w1 wr l ds (.slice a1 n1 q1) ps (.slice a2 n2 q2)) (k : Kept wr wf) (b : Bool) (hb : (decide (ps ≠ [] ∧ (Px.hd l).1 = 4)) = b) :
    GotP R g cap s ts w (Pp.ended ds (ps.map (·.1)) l).1 (Pp.ended ds (ps.map (·.1)) l).2 (.returned (.tuple #[.agg #[.slice a1 n1 q1, .slice a2 n2 q2], .bool b])) (wf.setCells w.heap.size 0 [.slice a1 n1 q1, .slice a2 n2 q2]) ∧ (wf.setCells w.heap.size 0 [.slice a1 n1 q1, .slice a2 n2 q2]).rangeAt w.heap.size 0 [.slice a1 n1 q1, .slice a2 n2 q2] := by
  have hz := W2_size w
  have hz0 := h.bu0.size
  have hz1 := h.bu.size
  have b01 : Bu (RB R (w.heap.size + 1)) (W2 w) wf := (h.bu0.then h.bu).then (Bu.of k)
  have hbx := box_res hR b01
  have e1 : Pp.ended ds (ps.map (·.1)) l = (if b then some (ds, ps.map (·.1)) else none, l) := by
    unfold Pp.ended
    by_cases c : ps ≠ [] ∧ (Px.hd l).1 = 4
    · rw [decide_eq_true c] at hb
      subst hb
      rw [if_pos ⟨by simpa using c.1, c.2⟩]; rfl
    · rw [decide_eq_false c] at hb
      subst hb
      rw [if_neg (fun c' => c ⟨by simpa using c'.1, c'.2⟩)]; rfl
  rw [e1]
  refine ⟨⟨a1, n1, q1, a2, n2, q2, by cases b <;> rfl, (bu_low b01).sets (.inr (Nat.le_refl _)) _ _, ⟨0, (h.at'.rd.kept k).sets (by omega) (by omega) _ _⟩, fun d t c => ?_⟩, World.rangeAt_setCells_same _ _ _ _ (hbx.there 0 2 (by decide))⟩
  cases b with
  | false => cases c
  | true =>
    have c' : some (ds, ps.map (·.1)) = some (d, t) := c
    injection c' with c'
    injection c' with c1 c2
    subst c1 c2
    have st : ∀ j, w.heap.size + 2 ≤ j → j < wr.heap.size → (wf.setCells w.heap.size 0 [.slice a1 n1 q1, .slice a2 n2 q2]).heap[j]? = wr.heap[j]? := fun j h1 h2 => (heap_setCells _ _ _ _ j (by omega)).trans (k.block j h2)
    have hsz : wr.heap.size ≤ (wf.setCells w.heap.size 0 [.slice a1 n1 q1, .slice a2 n2 q2]).heap.size := by rw [size_setCells]; exact k.size
    constructor
    · refine ((h.ds.stays (w' := wr) fun j hj => h.bu.block j hj.2 fun c => ?_).stays fun j hj => st j (by have := hj.1; omega) (by have := hj.2; omega)).mono (Rng.up (by omega) (by omega))
      have := hj.1
      rcases c with c | c <;> omega
    · have ht := h.own.ts (D' := Rng w1.heap.size wr.heap.size) (fun j hj => ⟨hj.1, hj.2.1⟩) (fun j hj => h.own.row.lt j hj)
      exact (ht.stays fun j hj => st j (by have := hj.1; omega) hj.2).mono (Rng.up (by omega) (by omega))
theorem PrT.start {R g cap : Nat} {s : ByteArray} {ts : List Lx.Tk} {P : Nat} {w0 wr : World} {l : List Lx.Core} {ds : List Dc} {v : Value} (h : PrD R g cap s ts P w0 wr l ds v) : PrT R g cap s ts P w0 wr wr l ds v [] (.slice none 0 0) :=
  ⟨h.at', OwnB.nil _ _ _ (Nat.le_refl _), h.own.ds fun k hk => ⟨(h.own.row.lt k hk).1, (h.own.row.lt k hk).2⟩, Bu.refl _ _, h.bu, h.lR, h.lP, h.lg⟩
end Go.Proofs.Ytnfkjmafhaecgaa

namespace Go.Proofs.Ytnfkjmafhaecgaa
open Go.RowKit
attribute [local go_sem] run_store_complex
theorem toks_alive {l : List UInt8} {ts : List Lx.Tk} (h : Lx.toks l = .good ts) : Pp.Alive (ts.map Lx.Tk.core) := by
  obtain ⟨t, ht, h4⟩ := Px.toks_end h
  exact ⟨t.core, List.mem_map_of_mem ht, h4, (Lx.toks_fit _ _ h t ht).2.1 h4⟩
/-- What a text is read as: the program, or the byte at which something can't stand. -/
def Pp.out (s : ByteArray) : Option (List Dc × List (List St)) × Nat :=
  match Lx.toks s.data.toList with
  | .bad q => (none, q)
  | .good ts => ((Pp.prog (plOf s ts) (ts.map Lx.Tk.core)).1, (ts.getD (ts.length - (Pp.prog (plOf s ts) (ts.map Lx.Tk.core)).2.length) ⟨0, 0, [], 0⟩).at')
theorem Pp.out_bad {s : ByteArray} {q : Nat} (h : Lx.toks s.data.toList = .bad q) : Pp.out s = (none, q) := by unfold Pp.out; rw [h]
theorem Pp.out_good {s : ByteArray} {ts : List Lx.Tk} {r : Option (List Dc × List (List St))} {m : List Lx.Core} (h : Lx.toks s.data.toList = .good ts) (hr : Pp.prog (plOf s ts) (ts.map Lx.Tk.core) = (r, m)) : Pp.out s = (r, (ts.getD (ts.length - m.length) ⟨0, 0, [], 0⟩).at') := by unfold Pp.out; rw [h]; simp only [hr]
theorem ret_read3 {fn : Func} {p u v : Tmp} (h : fn.results = #[.cell p 27, .tmp u, .tmp v]) (tmps : Array Value) {w : World} {B : Nat} {x y z1 z2 : Value} (hp : tmps.getD p undef = .pointer (some ⟨B, 0, none⟩)) (hu : tmps.getD u undef = z1) (hv : tmps.getD v undef = z2) (hB : w.rangeAt B 0 [x, y]) :
    (results fn tmps).run Try.prog w = .ok (.tuple #[.agg #[x, y], z1, z2]) w := by
  rw [results_cell_tmp2 h, hp, hu, hv]
  have := run_loadVar_mid (P := Try.prog) w B 0 27 _ _ hB Try.underlying27 rfl esizePr
  simp [asAddr, Result.andThen, this]
def Wz (w : World) : World := w.alloc (.cells #[.slice none 0 0, .slice none 0 0] 27)
theorem Wz_kept (w : World) : Kept w (Wz w) := (Kept.refl _).al _
theorem Wz_size (w : World) : (Wz w).heap.size = w.heap.size + 1 := by unfold Wz; simp
theorem Wz_box (w : World) : BoxS (Wz w) w.heap.size [.slice none 0 0, .slice none 0 0] := by
  unfold Wz
  refine ⟨fun j v hv => ?_, fun j => by simp, by simp⟩
  rw [Nat.zero_add]
  match j, hv with
  | 0, hv => cases hv; simp
  | 1, hv => cases hv; simp
end Go.Proofs.Ytnfkjmafhaecgaa

namespace Go.Proofs.Ytnfkjmafhaecgaa
open Go.RowKit
namespace Ps
open Lx (Core)
open Px (hd isNm ba e0 T C D Wf)
open Pp
/-- What is read of a program's tokens, and what stands behind them. -/
theorem prog_reads' {e : Nat} (he : e ≤ 7) (pl : Pl) (d : List Dc) (t : List (List St)) (hd' : ∀ x ∈ d, GdD x) (ht : ∀ b ∈ t, ∀ s ∈ b, Gd e s) (hd1 : d.length ≤ 24) (ht0 : t ≠ []) (ht1 : t.length ≤ 4) (m : List Core) (hm : (hd m).2.1 ≠ tGo) :
    ∃ d' t', prog pl (dcoress d ++ (tcoress t ++ m)) = ended d' t' m ∧ d'.map Dc.strip = d.map Dc.strip ∧ t'.map St.strips = t.map St.strips := by
  have h0 : dk (hd (tcoress t ++ m)).2.1 = 0 := by
    cases t with
    | nil => exact absurd rfl ht0
    | cons b t =>
      show dk tGo = 0
      decide
  obtain ⟨d', e1, e2⟩ := decls_reads pl (tcoress t ++ m) h0 d hd' 24 [] hd1
  obtain ⟨t', e3, e4⟩ := threads_reads he pl m t ht 4 [] ht1 (fun _ => hm)
  refine ⟨d', t', ?_, e2, e4⟩
  unfold prog
  rw [Pp.bind_some e1, Pp.bind_some e3]
  rfl
theorem ne_of_map {α β : Type} {f : α → β} {l m : List α} (h : l.map f = m.map f) (hm : m ≠ []) : l ≠ [] := by
  rintro rfl
  cases m with
  | nil => exact hm rfl
  | cons _ _ => simp at h
/-- A text with just a program's tokens is read as that program. -/
theorem out_cr {e : Nat} (he : e ≤ 7) {s : List UInt8} (hl : s.length ≤ 6000) (d : List Dc) (t : List (List St)) (hd' : ∀ x ∈ d, GdD x) (ht : ∀ b ∈ t, ∀ s ∈ b, Gd e s) (hd1 : d.length ≤ 24) (ht0 : t ≠ []) (ht1 : t.length ≤ 4) (hc : Lx.cr s = some (dcoress d ++ (tcoress t ++ [(4, [], 0)]))) :
    ∃ d' t' q, Pp.out (ba s) = (some (d', t'), q) ∧ d'.map Dc.strip = d.map Dc.strip ∧ t'.map St.strips = t.map St.strips := by
  obtain ⟨ts, h1, h2⟩ := Px.cr_toks hl hc
  obtain ⟨d', t', e1, e2, e3⟩ := prog_reads' he (plOf (ba s) ts) d t hd' ht hd1 ht0 ht1 [(4, [], 0)] (by decide)
  have e4 : ended d' t' [(4, [], 0)] = (some (d', t'), [(4, [], 0)]) := if_pos ⟨ne_of_map e3 ht0, rfl⟩
  exact ⟨d', t', _, Pp.out_good (s := ba s) h1 (by rw [h2, e1, e4]), e2, e3⟩
/-! ### Lines, and what stands between them -/
end Ps
end Go.Proofs.Ytnfkjmafhaecgaa
