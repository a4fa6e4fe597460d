/- Parentheses, a minus, and operators from the left, about what was printed: said plainly. No program, no condition. -/
import Derived.Test.YtbjdnniklcmcbaaDoorLr
namespace Go.Proofs.YtbjdnniklcmcbaaDoor
theorem Px.rd_some {s : List UInt8} {r : Option Ex × Nat × Nat} (h : Px.rd s = r) {x : Ex} (hx : r.1 = some x) : ∃ ts m, Lx.toks s = .good ts ∧ Px.read (ts.map Lx.Tk.core) = (some x, m) ∧ r.2.1 = ts.length - m.length ∧ r.2.2 = ts.length := by
  cases ht : Lx.toks s with
  | bad q => rw [Px.rd_bad ht] at h; rw [← h] at hx; cases hx
  | good ts =>
    cases hr : Px.read (ts.map Lx.Tk.core) with
    | mk o m =>
      rw [Px.rd_good ht hr] at h
      subst h
      have : o = some x := hx
      subst this
      exact ⟨ts, m, rfl, hr, rfl, rfl⟩
theorem Px.rd_less {s : List UInt8} {r : Option Ex × Nat × Nat} (h : Px.rd s = r) {x : Ex} (hx : r.1 = some x) : r.2.1 < r.2.2 ∧ r.2.2 ≤ 6001 := by
  obtain ⟨ts, m, h1, h2, h3, h4⟩ := Px.rd_some h hx
  have hm := List.length_pos_iff.2 (Px.read_left h1 h2)
  have hp := List.length_pos_iff.2 (Px.toks_ne _ _ h1)
  have := Px.toks_count _ _ h1
  omega
theorem Px.rd_written {x : Ex} (h : Px.Wf x) (hd : Px.D x 1 ≤ 8) (hl : (Px.T x 1).length ≤ 6000) : ∃ N, N ≤ 6001 ∧ Px.rd (Px.T x 1) = (some x, N, N + 1) := by
  obtain ⟨-, -, ts, h1, h2, h3⟩ := Px.written h hd hl
  have hc := Px.toks_count _ _ h1
  have e : ts.length = (Px.C x 1).length + 1 := by rw [← List.length_map (f := Lx.Tk.core), h2]; simp
  refine ⟨(Px.C x 1).length, by omega, ?_⟩
  rw [Px.rd_good h1 h3, e]
  simp

namespace Px
open Lx (Core)

theorem rd_cr {s : List UInt8} {cs : List Core} (hc : Lx.cr s = some cs) {r : Option Ex × Nat × Nat} (h : rd s = r) {y : Ex} (hy : r.1 = some y) : ∃ m, read cs = (some y, m) := by
  cases ht : Lx.toks s with
  | bad q => rw [rd_bad ht] at h; rw [← h] at hy; cases hy
  | good ts =>
    have e := (toks_cr ht).2
    rw [hc] at e
    have e' : cs = ts.map Lx.Tk.core := Option.some.inj e
    cases hr : read (ts.map Lx.Tk.core) with
    | mk o m =>
      rw [rd_good ht hr] at h
      subst h
      have : o = some y := hy
      subst this
      exact ⟨m, by rw [e']; exact hr⟩
theorem row_some {of : Nat} {part : P} {u m : List Core} {e : Ex} (h : part u = (some e, m)) : row of part u = more of part m.length e m := by
  unfold row; rw [h]
/-- Where the first factor is none, there is none. -/
theorem expr_none {f : P} {u m : List Core} (h : f u = (none, m)) : expr f u = (none, m) := by
  unfold expr sum row
  rw [h]
/-- Where it stands alone, it is it. -/
theorem expr_alone {f : P} {u r : List Core} {y : Ex} (h : f u = (some y, r)) (ho : Ok 1 r) : expr f u = (some y, r) := by
  have h3 : row 3 f u = (some y, r) := by
    rw [row_some h]
    exact more_none (ho 3 (by decide) (by decide))
  have h2 : sum f u = (some y, r) := by
    show row 2 (row 3 f) u = _
    rw [row_some h3]
    exact more_none (ho 2 (by decide) (by decide))
  unfold expr
  rw [h2]
  simp only [ho 1 (by decide) (by decide)]

theorem cr_paren {x : Ex} (h : Wf x) (r : List UInt8) : Lx.cr (40 :: (T x 1 ++ 41 :: r)) = (Lx.cr r).map fun ts => (3, [40], 0) :: (C x 1 ++ (3, [41], 0) :: ts) := by
  rw [cr_open, cr_T h 1 _ (stop_cons (by decide) _), cr_shut]
  cases Lx.cr r <;> simp
theorem rd_paren {x : Ex} (h : Wf x) (hd : D x 1 ≤ 8) {r : Option Ex × Nat × Nat} (hr : rd (40 :: (T x 1 ++ [41])) = r) {y : Ex} (hy : r.1 = some y) : y = x := by
  have hc := cr_paren h []
  rw [Lx.cr_nil] at hc
  obtain ⟨m, hm⟩ := rd_cr hc hr hy
  cases hf : fac 8 ((3, [40], 0) :: (C x 1 ++ (3, [41], 0) :: [(4, [], 0)])) with
  | mk o n =>
    cases o with
    | none => rw [show read _ = _ from expr_none hf] at hm; simp at hm
    | some z =>
      obtain ⟨rfl, rfl⟩ := fac_paren h hd hf
      rw [show read _ = _ from expr_alone hf ok_end] at hm
      simp at hm
      exact hm.1.symm
theorem rd_minus {x : Ex} (h : Wf x) (hd : D x 1 ≤ 8) {r : Option Ex × Nat × Nat} (hr : rd (45 :: 40 :: (T x 1 ++ [41])) = r) {y : Ex} (hy : r.1 = some y) : y = minusE x := by
  have hc : Lx.cr (45 :: 40 :: (T x 1 ++ [41])) = some ((3, [45], 0) :: (3, [40], 0) :: (C x 1 ++ (3, [41], 0) :: [(4, [], 0)])) := by
    rw [cr_min, cr_paren h [], Lx.cr_nil]; rfl
  obtain ⟨m, hm⟩ := rd_cr hc hr hy
  have hfac : fac 8 ((3, [45], 0) :: (3, [40], 0) :: (C x 1 ++ (3, [41], 0) :: [(4, [], 0)])) = minus (fac 7) ((3, [40], 0) :: (C x 1 ++ (3, [41], 0) :: [(4, [], 0)])) := by
    rw [fac_succ, if_neg (by show ¬ (3 = 2); decide), if_neg (by intro c; exact absurd c.1 (by show ¬ (3 = 1); decide)), if_pos (by show isSg [45] (3, [45], 0) = true; decide)]
    rfl
  cases hf : fac 7 ((3, [40], 0) :: (C x 1 ++ (3, [41], 0) :: [(4, [], 0)])) with
  | mk o n =>
    cases o with
    | none =>
      have : fac 8 ((3, [45], 0) :: (3, [40], 0) :: (C x 1 ++ (3, [41], 0) :: [(4, [], 0)])) = (none, n) := by rw [hfac]; unfold minus; rw [hf]
      rw [show read _ = _ from expr_none this] at hm; simp at hm
    | some z =>
      obtain ⟨rfl, rfl⟩ := fac_paren h hd (fac_le 7 _ _ _ hf)
      have : fac 8 ((3, [45], 0) :: (3, [40], 0) :: (C z 1 ++ (3, [41], 0) :: [(4, [], 0)])) = (some (minusE z), [(4, [], 0)]) := by rw [hfac]; unfold minus; rw [hf]
      rw [show read _ = _ from expr_alone this ok_end] at hm
      simp at hm
      exact hm.1.symm

/-- One more at the end. -/
def ends (k : Nat) : List Core := [(3, sgn (k : Int), 0), (2, [51], 3), (3, [45], 0), (2, [52], 4), (4, [], 0)]
theorem left_two (x : Ex) : more 3 (fac 8) 5 x (ends 4) = (some x, ends 4) ∧ more 2 (row 3 (fac 8)) 5 x (ends 4) = (some (binE 5 (binE 4 x (numE 3)) (numE 4)), [(4, [], 0)]) := ⟨by kernel_rfl, by kernel_rfl⟩
theorem left_five (x : Ex) : more 3 (fac 8) 5 x (ends 5) = (some x, ends 5) ∧ more 2 (row 3 (fac 8)) 5 x (ends 5) = (some (binE 5 (binE 5 x (numE 3)) (numE 4)), [(4, [], 0)]) := ⟨by kernel_rfl, by kernel_rfl⟩
def ends3 : List Core := [(3, [45], 0), (2, [52], 4), (4, [], 0)]
theorem left_mul (x : Ex) : more 3 (fac 8) 5 x (ends 6) = (some (binE 6 x (numE 3)), ends3) := by kernel_rfl
theorem left_div (x : Ex) : more 3 (fac 8) 5 x (ends 7) = (some (binE 7 x (numE 3)), ends3) := by kernel_rfl
theorem left_mod (x : Ex) : more 3 (fac 8) 5 x (ends 8) = (some (binE 8 x (numE 3)), ends3) := by kernel_rfl
theorem left_sub (x : Ex) : more 2 (row 3 (fac 8)) 3 x ends3 = (some (binE 5 x (numE 4)), [(4, [], 0)]) := by kernel_rfl
theorem expr_left (k : Nat) (h4 : 4 ≤ k) (h8 : k ≤ 8) {u : List Core} {x : Ex} (h : fac 8 u = (some x, ends k)) : read u = (some (binE 5 (binE k x (numE 3)) (numE 4)), [(4, [], 0)]) := by
  have hend : ∀ y, sum (fac 8) u = (some y, [(4, [], 0)]) → read u = (some y, [(4, [], 0)]) := by
    intro y hy
    unfold read expr
    rw [hy]
    rfl
  apply hend
  have lo : ∀ y n, more 3 (fac 8) 5 x (ends k) = (some y, n) → sum (fac 8) u = more 2 (row 3 (fac 8)) n.length y n := by
    intro y n hm
    have h3 : row 3 (fac 8) u = (some y, n) := by
      rw [row_some h]; exact hm
    show row 2 (row 3 (fac 8)) u = _
    exact row_some h3
  match k, h4, h8 with
  | 4, _, _ => rw [lo _ _ (left_two x).1]; exact (left_two x).2
  | 5, _, _ => rw [lo _ _ (left_five x).1]; exact (left_five x).2
  | 6, _, _ => rw [lo _ _ (left_mul x)]; exact left_sub _
  | 7, _, _ => rw [lo _ _ (left_div x)]; exact left_sub _
  | 8, _, _ => rw [lo _ _ (left_mod x)]; exact left_sub _
theorem rd_left {x : Ex} (h : Wf x) (hd : D x 1 ≤ 8) (k : Nat) (h4 : 4 ≤ k) (h8 : k ≤ 8) {r : Option Ex × Nat × Nat} (hr : rd (40 :: (T x 1 ++ 41 :: 32 :: (sgn (k : Int) ++ [32, 51, 32, 45, 32, 52]))) = r) {y : Ex} (hy : r.1 = some y) : y = binE 5 (binE k x (numE 3)) (numE 4) := by
  have hc : Lx.cr (40 :: (T x 1 ++ 41 :: 32 :: (sgn (k : Int) ++ [32, 51, 32, 45, 32, 52]))) = some ((3, [40], 0) :: (C x 1 ++ (3, [41], 0) :: ends k)) := by
    rw [cr_paren h, Lx.cr_blank 32 _ (by decide), cr_sgn k h4 (by omega)]
    rw [show Lx.cr [32, 51, 32, 45, 32, 52] = some [(2, [51], 3), (3, [45], 0), (2, [52], 4), (4, [], 0)] by decide +kernel]
    rfl
  obtain ⟨m, hm⟩ := rd_cr hc hr hy
  cases hf : fac 8 ((3, [40], 0) :: (C x 1 ++ (3, [41], 0) :: ends k)) with
  | mk o n =>
    cases o with
    | none => rw [show read _ = _ from expr_none hf] at hm; simp at hm
    | some z =>
      obtain ⟨rfl, rfl⟩ := fac_paren h hd hf
      rw [expr_left k h4 h8 hf] at hm
      simp at hm
      exact hm.1.symm
end Px
#print axioms Px.rd_left
#print axioms Px.rd_minus
end Go.Proofs.YtbjdnniklcmcbaaDoor
