/- Sf -/
import Derived.Test.YtnfkjmafhaecgaaUSc

namespace Go.Proofs.Ytnfkjmafhaecgaa
open Go.RowKit
theorem rtk_at (ts : List Lx.Tk) (i j : Nat) (hi : i < ts.length) (hj : j < 4) : (rCellsOf ts)[i * 4 + j]? = (rCells ts[i])[j]? := by
  induction ts generalizing i with
  | nil => simp at hi
  | cons t ts ih =>
    have hl : (rCells t).length = 4 := rfl
    rw [show rCellsOf (t :: ts) = rCells t ++ rCellsOf ts from List.flatMap_cons]
    cases i with
    | zero => rw [List.getElem?_append_left (by rw [hl]; omega)]; simp
    | succ i =>
      rw [List.getElem?_append_right (by rw [hl]; omega), hl, show (i + 1) * 4 + j - 4 = i * 4 + j by omega, ih i (by simpa using hi)]
      rfl
theorem rtold_good {w0 w : World} {ts : List Lx.Tk} {v p e : Value} (h : RTold w0 (.good ts) v p e w) (hne : ts ≠ []) :
    ∃ g cap, v = .slice (some ⟨g, 0, none⟩) ts.length cap ∧ p = .int .i64 0 ∧ e = .int .i64 0 ∧ w0.heap.size ≤ g ∧ g < w.heap.size ∧ (∀ i (hi : i < ts.length), w.rangeAt g (i * 4) (rCells ts[i])) ∧ Kept w0 w := by
  obtain ⟨rfl, rfl, ho, hk⟩ := h
  have hn : 0 < ts.length := List.length_pos_iff.2 hne
  obtain ⟨a, cap, rfl, hs⟩ := own_slice ho
  cases a with
  | none => have h1 := hs.nil rfl; have h2 := hs.le; omega
  | some ad =>
    rcases ho.2 with ⟨e0, -⟩ | ⟨g, cap', cur, e0, -⟩
    · cases e0
    · injection e0 with e1 e2 e3
      injection e1 with e1
      subst e1 e3
      have hlt := ho.lt g rfl
      refine ⟨g, cap, rfl, rfl, rfl, hlt.1, hlt.2, fun i hi j u hu => ?_, hk⟩
      have hj : j < 4 := by
        rcases Nat.lt_or_ge j 4 with h | h
        · exact h
        · rw [List.getElem?_eq_none (by show 4 ≤ j; exact h)] at hu; cases hu
      have hc := ho.cells (g := g) rfl (i * 4 + j) u (by rw [rtk_at ts i j hi hj]; exact hu)
      rw [Addr.add_mid, Nat.zero_add] at hc
      exact hc
/-- The reader, as Parse makes it. -/
theorem rq_start {w W : World} {ts : List Lx.Tk} {g cap R : Nat} (hrow : ∀ i (hi : i < ts.length), w.rangeAt g (i * 4) (rCells ts[i])) (hg : g < w.heap.size) (hR : W.heap.size = R) (hk : Kept w W) (hf : ts.length ≤ 6001) :
    Rq (W.alloc (.cells #[.slice (some ⟨g, 0, none⟩) ts.length cap, .int .i64 0, .bool false, .int .i64 0] 97)) R g cap ts 0 false 0 := by
  subst hR
  have hb := box_of (heap_alloc_new W (.cells #[.slice (some ⟨g, 0, none⟩) ts.length cap, .int .i64 0, .bool false, .int .i64 0] 97 (0, 0)))
  have hz := hk.size
  refine ⟨hb.cell 0 rfl, hb.cell 1 rfl, hb.cell 2 rfl, hb.cell 3 rfl, hb.fz, fun i hi j v hv => (hk.al _).cellS (hrow i hi j v hv), by omega, by simp; omega, hf, Nat.zero_le _⟩
end Go.Proofs.Ytnfkjmafhaecgaa
