/- Pm Po Sn Sd -/
import Derived.Test.YtbfikeegacapjaaWPaD
import Derived.Deep.RegionWith
import Derived.Laws.ResultCell
import Derived.Test.YtbfikeegacapjaaWKpA
import Derived.Test.YtbfikeegacapjaaWBs
import Derived.BigQuiet
import Derived.Deep.QuietTactic
import Derived.Deep.RegionHeld3

namespace Go.Proofs.Ytbfikeegacapjaa
open Go.RowKit
attribute [local go_sem] run_store_complex
attribute [local go_sem ↓] Go.wp_at_zero Go.wp_at_succ
theorem esizePr : (Try.prog.info? 27).map (·.size) = some 2 := by kernel_rfl
def W2 (w : World) : World := (w.alloc (.cells #[.slice none 0 0, .slice none 0 0] 27)).alloc (.cells #[.slice none 0 0, .slice none 0 0] 27)
end Go.Proofs.Ytbfikeegacapjaa

namespace Go.Proofs.Ytbfikeegacapjaa
open Go.RowKit
attribute [local go_sem] run_store_complex
theorem toks_alive {l : List UInt8} {ts : List Lx.Tk} (h : Lx.toks l = .good ts) : Pp.Alive (ts.map Lx.Tk.core) := by
  obtain ⟨t, ht, h4⟩ := Px.toks_end h
  exact ⟨t.core, List.mem_map_of_mem ht, h4, (Lx.toks_fit _ _ h t ht).2.1 h4⟩
def Pp.out (s : ByteArray) : Option (List Dc × List (List St)) × Nat :=
  match Lx.toks s.data.toList with
  | .bad q => (none, q)
  | .good ts => ((Pp.prog (plOf s ts) (ts.map Lx.Tk.core)).1, (ts.getD (ts.length - (Pp.prog (plOf s ts) (ts.map Lx.Tk.core)).2.length) ⟨0, 0, [], 0⟩).at')
theorem Pp.out_bad {s : ByteArray} {q : Nat} (h : Lx.toks s.data.toList = .bad q) : Pp.out s = (none, q) := by unfold Pp.out; rw [h]
theorem Pp.out_good {s : ByteArray} {ts : List Lx.Tk} {r : Option (List Dc × List (List St))} {m : List Lx.Core} (h : Lx.toks s.data.toList = .good ts) (hr : Pp.prog (plOf s ts) (ts.map Lx.Tk.core) = (r, m)) : Pp.out s = (r, (ts.getD (ts.length - m.length) ⟨0, 0, [], 0⟩).at') := by unfold Pp.out; rw [h]; simp only [hr]
theorem ret_read3 {fn : Func} {p u v : Tmp} (h : fn.results = #[.cell p 27, .tmp u, .tmp v]) (tmps : Array Value) {w : World} {B : Nat} {x y z1 z2 : Value} (hp : tmps.getD p undef = .pointer (some ⟨B, 0, none⟩)) (hu : tmps.getD u undef = z1) (hv : tmps.getD v undef = z2) (hB : w.rangeAt B 0 [x, y]) :
    (results fn tmps).run Try.prog w = .ok (.tuple #[.agg #[x, y], z1, z2]) w := by
  rw [results_cell_tmp2 h, hp, hu, hv]
  have := run_loadVar_mid (P := Try.prog) w B 0 27 _ _ hB Try.underlying27 rfl esizePr
  simp [asAddr, Result.andThen, this]
def Wz (w : World) : World := w.alloc (.cells #[.slice none 0 0, .slice none 0 0] 27)
theorem Wz_kept (w : World) : Kept w (Wz w) := (Kept.refl _).al _
theorem Wz_size (w : World) : (Wz w).heap.size = w.heap.size + 1 := by unfold Wz; simp
theorem Wz_box (w : World) : BoxS (Wz w) w.heap.size [.slice none 0 0, .slice none 0 0] := by
  unfold Wz
  refine ⟨fun j v hv => ?_, fun j => by simp, by simp⟩
  rw [Nat.zero_add]
  match j, hv with
  | 0, hv => cases hv; simp
  | 1, hv => cases hv; simp
end Go.Proofs.Ytbfikeegacapjaa

namespace Go.Proofs.Ytbfikeegacapjaa
open Go.RowKit
namespace Ps
open Lx (Core)
open Px (hd isNm ba e0 T C D Wf)
open Pp
theorem prog_reads' {e : Nat} (he : e ≤ 7) (pl : Pl) (d : List Dc) (t : List (List St)) (hd' : ∀ x ∈ d, GdD x) (ht : ∀ b ∈ t, ∀ s ∈ b, Gd e s) (hd1 : d.length ≤ 24) (ht0 : t ≠ []) (ht1 : t.length ≤ 4) (m : List Core) (hm : (hd m).2.1 ≠ tGo) :
    ∃ d' t', prog pl (dcoress d ++ (tcoress t ++ m)) = ended d' t' m ∧ d'.map Dc.strip = d.map Dc.strip ∧ t'.map St.strips = t.map St.strips := by
  have h0 : dk (hd (tcoress t ++ m)).2.1 = 0 := by
    cases t with
    | nil => exact absurd rfl ht0
    | cons b t =>
      show dk tGo = 0
      decide
  obtain ⟨d', e1, e2⟩ := decls_reads pl (tcoress t ++ m) h0 d hd' 24 [] hd1
  obtain ⟨t', e3, e4⟩ := threads_reads he pl m t ht 4 [] ht1 (fun _ => hm)
  refine ⟨d', t', ?_, e2, e4⟩
  unfold prog
  rw [Pp.bind_some e1, Pp.bind_some e3]
  rfl
theorem ne_of_map {α β : Type} {f : α → β} {l m : List α} (h : l.map f = m.map f) (hm : m ≠ []) : l ≠ [] := by
  rintro rfl
  cases m with
  | nil => exact hm rfl
  | cons _ _ => simp at h
theorem len_of_map {α β : Type} {f : α → β} {l m : List α} (h : l.map f = m.map f) : l.length = m.length := by
  have := congrArg List.length h
  simpa using this
theorem out_cr {e : Nat} (he : e ≤ 7) {s : List UInt8} (hl : s.length ≤ 6000) (d : List Dc) (t : List (List St)) (hd' : ∀ x ∈ d, GdD x) (ht : ∀ b ∈ t, ∀ s ∈ b, Gd e s) (hd1 : d.length ≤ 24) (ht0 : t ≠ []) (ht1 : t.length ≤ 4) (hc : Lx.cr s = some (dcoress d ++ (tcoress t ++ [(4, [], 0)]))) :
    ∃ d' t' q, Pp.out (ba s) = (some (d', t'), q) ∧ d'.map Dc.strip = d.map Dc.strip ∧ t'.map St.strips = t.map St.strips := by
  obtain ⟨ts, h1, h2⟩ := Px.cr_toks hl hc
  obtain ⟨d', t', e1, e2, e3⟩ := prog_reads' he (plOf (ba s) ts) d t hd' ht hd1 ht0 ht1 [(4, [], 0)] (by decide)
  have e4 : ended d' t' [(4, [], 0)] = (some (d', t'), [(4, [], 0)]) := if_pos ⟨ne_of_map e3 ht0, rfl⟩
  exact ⟨d', t', _, Pp.out_good (s := ba s) h1 (by rw [h2, e1, e4]), e2, e3⟩
theorem cr_shown {e : Nat} (d : List Dc) (t : List (List St)) (hd' : ∀ x ∈ d, GdD x) (ht : ∀ b ∈ t, ∀ s ∈ b, Gd e s) : Lx.cr (shown d t) = some (dcoress d ++ (tcoress t ++ [(4, [], 0)])) := by
  have := shown_lex d t hd' ht []
  rw [List.append_nil, Lx.cr_nil] at this
  rw [this]; simp
theorem out_shown {e : Nat} (he : e ≤ 7) (d : List Dc) (t : List (List St)) (hl : (shown d t).length ≤ 6000) (hd' : ∀ x ∈ d, GdD x) (ht : ∀ b ∈ t, ∀ s ∈ b, Gd e s) (hd1 : d.length ≤ 24) (ht0 : t ≠ []) (ht1 : t.length ≤ 4) :
    ∃ d' t' q, Pp.out (ba (shown d t)) = (some (d', t'), q) ∧ d'.map Dc.strip = d.map Dc.strip ∧ t'.map St.strips = t.map St.strips := out_cr he hl d t hd' ht hd1 ht0 ht1 (cr_shown d t hd' ht)
theorem shown_len {e : Nat} (he : e ≤ 3) (d : List Dc) (t : List (List St)) (hd' : ∀ x ∈ d, GdD x) (ht : ∀ b ∈ t, (∀ s ∈ b, Gd e s) ∧ St.sizes b ≤ 16) : (shown d t).length ≤ 22 * d.length + 1159 * t.length := by
  have h1 := dtexts_len d hd'
  have h2 := ttexts_len he t ht
  unfold shown
  rw [List.length_append]; omega
/-! ### Lines, and what stands between them -/
end Ps
end Go.Proofs.Ytbfikeegacapjaa

namespace Go.Proofs.Ytbfikeegacapjaa
open Go.RowKit
attribute [local go_sem] run_store_complex
def okAt (x y : Nat) : Prop := (FloatKind.f64.format.order x x == some Ordering.eq) = true ∧ (FloatKind.f64.format.order y y == some Ordering.eq) = true
inductive OkS : St → Prop
  | mk (x : St) (h : okAt x.re x.im) (hb : ∀ y ∈ x.body, OkS y) (hc : ∀ y ∈ x.els, OkS y) : OkS x
end Go.Proofs.Ytbfikeegacapjaa
