/- The little statement 'known' that all others begin with answers true, at whatever memory in which ErrRange holds an error; what a list of tokens holds, cell by cell. -/
import Derived.Test.YtfjeijjllgocdaaDoorSplit
import Derived.Test.YtfjeijjllgocdaaDoorLxLaws
namespace Go.Proofs.YtfjeijjllgocdaaDoor
open Go.RowKit

/-- A list of tokens, cell by cell. -/
structure Row (s : ByteArray) (ts : List Lx.Tk) (g : Nat) (w : World) : Prop where
  cells : ∀ j, j < ts.length * 4 → w.cell? ⟨g, j, none⟩ = (cellsOf s ts)[j]?

theorem told_good {s : ByteArray} {w0 w : World} {ts : List Lx.Tk} {v p e : Value} (h : Told s w0 (.good ts) v p e w) (hne : ts ≠ []) :
    ∃ g cap, v = .slice (some ⟨g, 0, none⟩) ts.length cap ∧ p = .complex .f64 0 0 ∧ e = .int .i64 0 ∧ w0.heap.size ≤ g ∧ g < w.heap.size ∧ Row s ts g w ∧ Kept w0 w := by
  obtain ⟨rfl, rfl, ho, hb⟩ := h
  have hl : 0 < ts.length := List.length_pos_iff.2 hne
  obtain ⟨g, cap, rfl, h1, h2⟩ := ho.form hl
  exact ⟨g, cap, rfl, rfl, rfl, h1, h2, ⟨fun j hj => ho.cellAt j hj⟩, hb⟩

theorem Row.kept {s : ByteArray} {ts : List Lx.Tk} {g : Nat} {w w' : World} (h : Row s ts g w) (hg : g < w.heap.size) (hk : Kept w w') : Row s ts g w' :=
  ⟨fun j hj => (hk.cell (p := ⟨g, j, none⟩) hg).trans (h.cells j hj)⟩

theorem tk_at (s : ByteArray) (ts : List Lx.Tk) (i j : Nat) (hi : i < ts.length) (hj : j < 4) : (cellsOf s ts)[i * 4 + j]? = (tkCells s ts[i])[j]? := by
  induction ts generalizing i with
  | nil => simp at hi
  | cons t r ih =>
    have e : cellsOf s (t :: r) = tkCells s t ++ cellsOf s r := rfl
    rw [e]
    have hl : (tkCells s t).length = 4 := rfl
    cases i with
    | zero => rw [List.getElem?_append_left (by omega)]; simp
    | succ i =>
      rw [List.getElem?_append_right (by omega), hl, show (i + 1) * 4 + j - 4 = i * 4 + j by omega]
      exact ih i (by simpa using hi)

/-- The four cells of token i. -/
theorem Row.at {s : ByteArray} {ts : List Lx.Tk} {g : Nat} {w : World} (h : Row s ts g w) (i : Nat) (hi : i < ts.length) :
    w.cell? ⟨g, i * 4, none⟩ = some (.int .i64 (ts[i].kind : Int)) ∧ w.cell? ⟨g, i * 4 + 1, none⟩ = some (.string ⟨ts[i].text.toArray⟩) ∧ w.cell? ⟨g, i * 4 + 2, none⟩ = some (.int .i64 (ts[i].n : Int)) ∧ w.cell? ⟨g, i * 4 + 3, none⟩ = some (.complex .f64 (lineW s ts[i].at') (colW s ts[i].at')) := by
  refine ⟨?_, ?_, ?_, ?_⟩
  · have := tk_at s ts i 0 hi (by decide); rw [h.cells (i * 4) (by omega)]; exact this
  · have := tk_at s ts i 1 hi (by decide); rw [h.cells (i * 4 + 1) (by omega)]; exact this
  · have := tk_at s ts i 2 hi (by decide); rw [h.cells (i * 4 + 2) (by omega)]; exact this
  · have := tk_at s ts i 3 hi (by decide); rw [h.cells (i * 4 + 3) (by omega)]; exact this

/-- The tokens of chapter 2's example. -/
def knownToks : List Lx.Tk := [⟨1, 0, [120], 0⟩, ⟨3, 1, [61, 61], 0⟩, ⟨3, 3, [45], 0⟩, ⟨2, 4, [49, 50], 12⟩, ⟨4, 10, [], 0⟩]
theorem known_toks : Lx.toks [120, 61, 61, 45, 49, 50, 32, 35, 32, 121] = .good knownToks := by decide +kernel

theorem known_tokens (w : World) (hE : Er w) : Calls Tryd.prog 9 #[.string ⟨#[120, 61, 61, 45, 49, 50, 32, 35, 32, 121]⟩] w fun e w' => ∃ g cap, e = .returned (.tuple #[.slice (some ⟨g, 0, none⟩) 5 cap, .complex .f64 0 0, .int .i64 0]) ∧ w.heap.size ≤ g ∧ g < w'.heap.size ∧ Row ⟨#[120, 61, 61, 45, 49, 50, 32, 35, 32, 121]⟩ knownToks g w' ∧ Kept w w' := by
  refine (tokens_any _ w (by decide) hE _ known_toks).mono ?_
  rintro e w' ⟨v, p, q, rfl, ht⟩
  obtain ⟨g, cap, rfl, rfl, rfl, h⟩ := told_good ht (by decide)
  exact ⟨g, cap, rfl, h⟩

/-- Two tokens are the same. -/
theorem run_equalIn_complex (d : Nat) (x y : Nat) (hx : (Ieee.double.order x x == some .eq) = true) (hy : (Ieee.double.order y y == some .eq) = true) (w : World) :
    (Op.equalIn (d + 1) 23 (.complex .f64 x y) (.complex .f64 x y)).run Tryd.prog w = .ok true w := by
  have hx' : (FloatKind.f64.format.order x x == some .eq) = true := hx
  have hy' : (FloatKind.f64.format.order y y == some .eq) = true := hy
  have hu := Tryd.underlying23
  simp only [Op.equalIn, Sem.run_bind, run_underlying hu, Result.andThen_ok]
  rw [if_pos trivial, Sem.run_pure, show Op.floatEq FloatKind.f64 x x = true from hx', show Op.floatEq FloatKind.f64 y y = true from hy']
  rfl
theorem run_tok_eq (k n : Int) (t : ByteArray) (x y : Nat) (hx : (Ieee.double.order x x == some .eq) = true) (hy : (Ieee.double.order y y == some .eq) = true) (w : World) :
    (binOp .eql 30 (.agg #[.int .i64 k, .string t, .int .i64 n, .complex .f64 x y]) (.agg #[.int .i64 k, .string t, .int .i64 n, .complex .f64 x y])).run Tryd.prog w = .ok (.bool true) w := by
  have hc : ∀ w, (Op.equalIn 9999 23 (.complex .f64 x y) (.complex .f64 x y)).run Tryd.prog w = .ok true w := run_equalIn_complex 9998 x y hx hy
  have hp : Tryd.prog.stoodInHeld 30 = false := by kernel_rfl
  rw [run_eql_struct, run_equalIn_struct (d := 9999) (ht := by kernel_rfl) (hp := hp)]
  simp [go_sem, Program.fieldsOf, Tryd.underlying30, Op.eqFields, hc]
theorem run_tok_ne (k n : Int) (t : ByteArray) (x y : Nat) (hx : (Ieee.double.order x x == some .eq) = true) (hy : (Ieee.double.order y y == some .eq) = true) (w : World) :
    (binOp .neq 30 (.agg #[.int .i64 k, .string t, .int .i64 n, .complex .f64 x y]) (.agg #[.int .i64 k, .string t, .int .i64 n, .complex .f64 x y])).run Tryd.prog w = .ok (.bool false) w := by
  have hc : ∀ w, (Op.equalIn 9999 23 (.complex .f64 x y) (.complex .f64 x y)).run Tryd.prog w = .ok true w := run_equalIn_complex 9998 x y hx hy
  have hp : Tryd.prog.stoodInHeld 30 = false := by kernel_rfl
  rw [run_neq_struct, run_equalIn_struct (d := 9999) (ht := by kernel_rfl) (hp := hp)]
  simp [go_sem, Program.fieldsOf, Tryd.underlying30, Op.eqFields, hc]

set_option maxHeartbeats 1000000 in
theorem known_any (w : World) (hE : Er w) : Calls Tryd.prog 10 #[] w fun e w' => e = .returned (.bool true) ∧ Kept w w' := by
  have HE : Hid (Er w) := hE
  clear hE
  have q1 : ∀ w, _ := run_tok_eq 1 0 ⟨#[120]⟩ 4607182418800017408 4607182418800017408 (by decide +kernel) (by decide +kernel)
  have q2 : ∀ w, _ := run_tok_eq 2 12 ⟨#[49, 50]⟩ 4607182418800017408 4617315517961601024 (by decide +kernel) (by decide +kernel)
  have q3 : ∀ w, _ := run_tok_eq 4 0 ⟨#[]⟩ 4607182418800017408 4622382067542392832 (by decide +kernel) (by decide +kernel)
  go_enter Tryd.func10, Tryd.ntmps10
  go_wp2_with fail
  refine (known_tokens _ HE.out).mono ?_
  rintro e w1 ⟨g, cap, rfl, h1, h2, hr, hk⟩
  have HK : Hid (Kept _ _) := hk
  have p1 : lineW ⟨#[120, 61, 61, 45, 49, 50, 32, 35, 32, 121]⟩ 0 = 4607182418800017408 ∧ colW ⟨#[120, 61, 61, 45, 49, 50, 32, 35, 32, 121]⟩ 0 = 4607182418800017408 := by decide +kernel
  have p2 : lineW ⟨#[120, 61, 61, 45, 49, 50, 32, 35, 32, 121]⟩ 4 = 4607182418800017408 ∧ colW ⟨#[120, 61, 61, 45, 49, 50, 32, 35, 32, 121]⟩ 4 = 4617315517961601024 := by decide +kernel
  have p3 : lineW ⟨#[120, 61, 61, 45, 49, 50, 32, 35, 32, 121]⟩ 10 = 4607182418800017408 ∧ colW ⟨#[120, 61, 61, 45, 49, 50, 32, 35, 32, 121]⟩ 10 = 4622382067542392832 := by decide +kernel
  obtain ⟨a0, a1, a2, a3⟩ := hr.at 0 (by decide)
  obtain ⟨_, b1, _, _⟩ := hr.at 1 (by decide)
  obtain ⟨c0, _, _, _⟩ := hr.at 2 (by decide)
  obtain ⟨d0, d1, d2, d3⟩ := hr.at 3 (by decide)
  obtain ⟨e0, e1, e2, e3⟩ := hr.at 4 (by decide)
  have a3' : w1.cell? ⟨g, 3, none⟩ = some (.complex .f64 4607182418800017408 4607182418800017408) := a3.trans (congrArg some (show Value.complex .f64 (lineW ⟨#[120, 61, 61, 45, 49, 50, 32, 35, 32, 121]⟩ 0) (colW ⟨#[120, 61, 61, 45, 49, 50, 32, 35, 32, 121]⟩ 0) = _ by rw [p1.1, p1.2]))
  have d3' : w1.cell? ⟨g, 15, none⟩ = some (.complex .f64 4607182418800017408 4617315517961601024) := d3.trans (congrArg some (show Value.complex .f64 (lineW ⟨#[120, 61, 61, 45, 49, 50, 32, 35, 32, 121]⟩ 4) (colW ⟨#[120, 61, 61, 45, 49, 50, 32, 35, 32, 121]⟩ 4) = _ by rw [p2.1, p2.2]))
  have e3' : w1.cell? ⟨g, 19, none⟩ = some (.complex .f64 4607182418800017408 4622382067542392832) := e3.trans (congrArg some (show Value.complex .f64 (lineW ⟨#[120, 61, 61, 45, 49, 50, 32, 35, 32, 121]⟩ 10) (colW ⟨#[120, 61, 61, 45, 49, 50, 32, 35, 32, 121]⟩ 10) = _ by rw [p3.1, p3.2]))
  replace a0 : w1.cell? ⟨g, 0, none⟩ = some (.int .i64 1) := a0
  replace a1 : w1.cell? ⟨g, 1, none⟩ = some (.string ⟨#[120]⟩) := a1
  replace a2 : w1.cell? ⟨g, 2, none⟩ = some (.int .i64 0) := a2
  replace b1 : w1.cell? ⟨g, 5, none⟩ = some (.string ⟨#[61, 61]⟩) := b1
  replace c0 : w1.cell? ⟨g, 8, none⟩ = some (.int .i64 3) := c0
  replace d0 : w1.cell? ⟨g, 12, none⟩ = some (.int .i64 2) := d0
  replace d1 : w1.cell? ⟨g, 13, none⟩ = some (.string ⟨#[49, 50]⟩) := d1
  replace d2 : w1.cell? ⟨g, 14, none⟩ = some (.int .i64 12) := d2
  replace e0 : w1.cell? ⟨g, 16, none⟩ = some (.int .i64 4) := e0
  replace e1 : w1.cell? ⟨g, 17, none⟩ = some (.string ⟨#[]⟩) := e1
  replace e2 : w1.cell? ⟨g, 18, none⟩ = some (.int .i64 0) := e2
  clear hr hk a3 d3 e3 p1 p2 p3 h1 h2
  go_wp2
  go_ret
  exact ⟨rfl, HK.out⟩

end Go.Proofs.YtfjeijjllgocdaaDoor
