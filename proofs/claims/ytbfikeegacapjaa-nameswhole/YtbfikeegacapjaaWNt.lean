/- Nt -/
import Derived.Test.YtbfikeegacapjaaWNp
import Derived.Test.YtbfikeegacapjaaWNh
import Derived.Test.YtbfikeegacapjaaWQa
import Derived.Test.YtbfikeegacapjaaWHdA
import Derived.Test.YtbfikeegacapjaaWWD
import Derived.Deep.RegionHeld3
import Derived.Deep.QuietTactic
import Derived.BigQuiet

namespace Go.Proofs.Ytbfikeegacapjaa
open Go.RowKit
attribute [local go_sem] run_store_complex
structure TurnedD (ds : List Dc) (n : Nat) : Prop where
  len : ds.length = n
  fd : ∀ y ∈ ds, FitD y ∧ y.name.size ≤ 5
  ok : ∀ y ∈ ds, okAt y.re y.im
theorem TurnedD.set {ds : List Dc} {n : Nat} (h : TurnedD ds n) (i : Nat) (y : Dc) (h1 : FitD y ∧ y.name.size ≤ 5) (h2 : okAt y.re y.im) : TurnedD (ds.set i y) n := by
  refine ⟨by rw [List.length_set]; exact h.len, fun z hz => ?_, fun z hz => ?_⟩
  · rcases List.mem_or_eq_of_mem_set hz with hz | rfl
    · exact h.fd z hz
    · exact h1
  · rcases List.mem_or_eq_of_mem_set hz with hz | rfl
    · exact h.ok z hz
    · exact h2
theorem dcs_set : ∀ (ds : List Dc) (i j : Nat) (y : Dc) (v : Value), i < ds.length → j < 4 → y.cells = (ds[i]?.getD dc0).cells.set j v → dcs (ds.set i y) = (dcs ds).set (i * 4 + j) v
  | [], i, _, _, _, h, _, _ => by simp at h
  | a :: ds, 0, j, y, v, _, hj, he => by
    have he : y.cells = a.cells.set j v := by simpa using he
    have hl : a.cells.length = 4 := rfl
    show dcs (y :: ds) = (dcs (a :: ds)).set (0 * 4 + j) v
    rw [show dcs (y :: ds) = y.cells ++ dcs ds from by simp [dcs], show dcs (a :: ds) = a.cells ++ dcs ds from by simp [dcs], he, Nat.zero_mul, Nat.zero_add, List.set_append_left _ _ (by omega)]
  | a :: ds, i + 1, j, y, v, h, hj, he => by
    have hl : a.cells.length = 4 := rfl
    show dcs (a :: ds.set i y) = (dcs (a :: ds)).set ((i + 1) * 4 + j) v
    rw [show dcs (a :: ds.set i y) = a.cells ++ dcs (ds.set i y) from by simp [dcs], show dcs (a :: ds) = a.cells ++ dcs ds from by simp [dcs], dcs_set ds i j y v (by simpa using h) hj (by simpa using he), List.set_append_right _ _ (by omega), hl, show (i + 1) * 4 + j - 4 = i * 4 + j by omega]
theorem OwnD.field {w : World} {base g n cap : Nat} {ds : List Dc} (h : OwnD w base ds (.slice (some ⟨g, 0, none⟩) n cap)) (i j : Nat) (y : Dc) (v : Value) (hi : i < ds.length) (hj : j < 4) (he : y.cells = (ds[i]?.getD dc0).cells.set j v) : OwnD (w.setCell ⟨g, i * 4 + j, none⟩ v) base (ds.set i y) (.slice (some ⟨g, 0, none⟩) n cap) := by
  have hn : n = ds.length := by
    obtain ⟨a, c, e, _⟩ := own_slice h.row
    injection e
  subst hn
  refine ⟨?_, by rw [setCell_size]; exact h.le⟩
  rw [List.length_set, dcs_set ds i j y v hi hj he]
  exact (h.row.stored (i * 4 + j) v).1
theorem OwnD.cell {w : World} {base g n cap : Nat} {ds : List Dc} (h : OwnD w base ds (.slice (some ⟨g, 0, none⟩) n cap)) (i : Nat) (hi : i < ds.length) : w.cell? ⟨g, i * 4, none⟩ = some (.int .i64 ds[i].kind) ∧ w.cell? ⟨g, i * 4 + 1, none⟩ = some (.string ds[i].name) ∧ w.cell? ⟨g, i * 4 + 2, none⟩ = some (.int .i64 ds[i].n) ∧ w.cell? ⟨g, i * 4 + 3, none⟩ = some (.complex .f64 ds[i].re ds[i].im) ∧ (∀ j, w.frozen? ⟨g, j, none⟩ = false) ∧ g < w.heap.size := by
  have hn : n = ds.length := by
    obtain ⟨a, c, e, _⟩ := own_slice h.row
    injection e
  subst hn
  have hc : ∀ j, j < 4 → w.cell? ⟨g, i * 4 + j, none⟩ = ds[i].cells[j]? := fun j hj => by rw [h.row.cellAt (i * 4 + j) (by omega), dcs_get ds i hi j hj]
  exact ⟨(hc 0 (by omega)), (hc 1 (by omega)), (hc 2 (by omega)), (hc 3 (by omega)), fun j => own_fz h.row j, (h.row.lt g rfl).2⟩
theorem ok_rung (n : Nat) (h : n < 2 ^ 53) : (FloatKind.f64.format.order (Fp.rung n) (Fp.rung n) == some Ordering.eq) = true := by
  have r := Fp.rep_rung n h
  show (Ieee.double.order _ _ == _) = true
  rw [Fp.order_rep r r, cmp_eq]; simp
theorem dcs_cells (d : List Dc) : ∀ u ∈ dcs d, u.oneCell' = true := by
  intro u hu
  obtain ⟨y, _, hy⟩ := List.mem_flatMap.1 hu
  simp [Dc.cells] at hy
  rcases hy with rfl | rfl | rfl | rfl <;> rfl
theorem eql_oneU : (FloatKind.f64.format.order 4607182418800017408 4607182418800017408 == some Ordering.eq) = true := by decide +kernel
structure TN (w wr : World) (pb0 rb0 b0 : Nat) (nd : Nat) (ds : List Dc) (dv tv : Value) : Prop where
  own : OwnD wr b0 ds dv
  td : TurnedD ds nd
  box : BoxS wr pb0 [dv, tv]
  res : BoxS wr rb0 [.slice none 0 0, .slice none 0 0]
  kept : Kept w wr
  lo : w.heap.size ≤ pb0
  ne : pb0 < rb0
  hi : rb0 < b0
theorem TN.field {w wr : World} {pb0 rb0 b0 nd g n cap : Nat} {ds : List Dc} {tv : Value} (h : TN w wr pb0 rb0 b0 nd ds (.slice (some ⟨g, 0, none⟩) n cap) tv) (i j : Nat) (y : Dc) (v : Value) (hi : i < ds.length) (hj : j < 4) (he : y.cells = (ds[i]?.getD dc0).cells.set j v) (h1 : FitD y ∧ y.name.size ≤ 5) (h2 : okAt y.re y.im) : TN w (wr.setCell ⟨g, i * 4 + j, none⟩ v) pb0 rb0 b0 nd (ds.set i y) (.slice (some ⟨g, 0, none⟩) n cap) tv := by
  have hg := (h.own.row.lt g rfl).1
  have l1 := h.lo; have l2 := h.ne; have l3 := h.hi
  have e : ∀ k, k ≠ g → (wr.setCell ⟨g, i * 4 + j, none⟩ v).heap[k]? = wr.heap[k]? := fun k hk => heap_setCells g [v] (i * 4 + j) wr k hk
  have hs : wr.heap.size ≤ (wr.setCell ⟨g, i * 4 + j, none⟩ v).heap.size := by rw [setCell_size]; exact Nat.le_refl _
  exact ⟨h.own.field i j y v hi hj he, h.td.set i y h1 h2, h.box.off (e _ (by omega)) hs, h.res.off (e _ (by omega)) hs, Below.setCell h.kept (by show w.heap.size ≤ g; omega) _, h.lo, h.ne, h.hi⟩
theorem TN.keep {w wr W : World} {pb0 rb0 b0 nd : Nat} {ds : List Dc} {dv tv : Value} (h : TN w wr pb0 rb0 b0 nd ds dv tv) (k : Kept wr W) : TN w W pb0 rb0 b0 nd ds dv tv :=
  ⟨h.own.bu (M := fun _ => False) (Bu.of k) fun _ _ _ c => c, h.td, h.box.kept k, h.res.kept k, h.kept.then k, h.lo, h.ne, h.hi⟩
end Go.Proofs.Ytbfikeegacapjaa
