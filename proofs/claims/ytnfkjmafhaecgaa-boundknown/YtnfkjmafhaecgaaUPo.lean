/- Po -/
import Derived.Test.YtnfkjmafhaecgaaUPm

namespace Go.Proofs.Ytnfkjmafhaecgaa
open Go.RowKit
attribute [local go_sem] run_store_complex
theorem toks_alive {l : List UInt8} {ts : List Lx.Tk} (h : Lx.toks l = .good ts) : Pp.Alive (ts.map Lx.Tk.core) := by
  obtain ⟨t, ht, h4⟩ := Px.toks_end h
  exact ⟨t.core, List.mem_map_of_mem ht, h4, (Lx.toks_fit _ _ h t ht).2.1 h4⟩
/-- What a text is read as: the program, or the byte at which something can't stand. -/
def Pp.out (s : ByteArray) : Option (List Dc × List (List St)) × Nat :=
  match Lx.toks s.data.toList with
  | .bad q => (none, q)
  | .good ts => ((Pp.prog (plOf s ts) (ts.map Lx.Tk.core)).1, (ts.getD (ts.length - (Pp.prog (plOf s ts) (ts.map Lx.Tk.core)).2.length) ⟨0, 0, [], 0⟩).at')
theorem Pp.out_bad {s : ByteArray} {q : Nat} (h : Lx.toks s.data.toList = .bad q) : Pp.out s = (none, q) := by unfold Pp.out; rw [h]
theorem Pp.out_good {s : ByteArray} {ts : List Lx.Tk} {r : Option (List Dc × List (List St))} {m : List Lx.Core} (h : Lx.toks s.data.toList = .good ts) (hr : Pp.prog (plOf s ts) (ts.map Lx.Tk.core) = (r, m)) : Pp.out s = (r, (ts.getD (ts.length - m.length) ⟨0, 0, [], 0⟩).at') := by unfold Pp.out; rw [h]; simp only [hr]
theorem ret_read3 {fn : Func} {p u v : Tmp} (h : fn.results = #[.cell p 27, .tmp u, .tmp v]) (tmps : Array Value) {w : World} {B : Nat} {x y z1 z2 : Value} (hp : tmps.getD p undef = .pointer (some ⟨B, 0, none⟩)) (hu : tmps.getD u undef = z1) (hv : tmps.getD v undef = z2) (hB : w.rangeAt B 0 [x, y]) :
    (results fn tmps).run Try.prog w = .ok (.tuple #[.agg #[x, y], z1, z2]) w := by
  rw [results_cell_tmp2 h, hp, hu, hv]
  have := run_loadVar_mid (P := Try.prog) w B 0 27 _ _ hB Try.underlying27 rfl esizePr
  simp [asAddr, Result.andThen, this]
def Wz (w : World) : World := w.alloc (.cells #[.slice none 0 0, .slice none 0 0] 27)
theorem Wz_kept (w : World) : Kept w (Wz w) := (Kept.refl _).al _
theorem Wz_size (w : World) : (Wz w).heap.size = w.heap.size + 1 := by unfold Wz; simp
theorem Wz_box (w : World) : BoxS (Wz w) w.heap.size [.slice none 0 0, .slice none 0 0] := by
  unfold Wz
  refine ⟨fun j v hv => ?_, fun j => by simp, by simp⟩
  rw [Nat.zero_add]
  match j, hv with
  | 0, hv => cases hv; simp
  | 1, hv => cases hv; simp
end Go.Proofs.Ytnfkjmafhaecgaa
