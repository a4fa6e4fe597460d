/- What the reference's Tokens tells, of any text, at whatever memory. -/
import Derived.Test.YtfjeijjllgocdaaDoorRa
namespace Go.Proofs.YtfjeijjllgocdaaDoor
open Go.RowKit

def rCells (t : Lx.Tk) : List Value := [.int .i64 (t.kind : Int), .string ⟨t.text.toArray⟩, .int .i64 (t.n : Int), .int .i64 (t.at' : Int)]
def rCellsOf (ts : List Lx.Tk) : List Value := ts.flatMap rCells
theorem rCellsOf_snoc (ts : List Lx.Tk) (t : Lx.Tk) : rCellsOf (ts ++ [t]) = rCellsOf ts ++ rCells t := by simp [rCellsOf]

theorem rtok_info : ∃ i, Tryd.prog.info? 39 = some i ∧ i.zero = some (.agg #[.int .i64 0, .string ⟨#[]⟩, .int .i64 0, .int .i64 0]) ∧ i.size = 4 ∧ i.bytes = 40 := by
  have h : (Tryd.prog.info? 39).map (fun i => (i.zero, i.size, i.bytes)) = some (some (.agg #[.int .i64 0, .string ⟨#[]⟩, .int .i64 0, .int .i64 0]), 4, 40) := by kernel_rfl
  cases hi : Tryd.prog.info? 39 with
  | none => rw [hi] at h; cases h
  | some i =>
    rw [hi] at h
    simp only [Option.map_some, Option.some.injEq, Prod.mk.injEq] at h
    exact ⟨i, rfl, h.1, h.2.1, h.2.2⟩

/-- What is told. -/
def RTold (w0 : World) (R : Lx.Out) (v p e : Value) (w : World) : Prop :=
  match R with
  | .bad q => v = .slice none 0 0 ∧ p = .int .i64 (q : Int) ∧ e = .int .i64 2 ∧ Kept w0 w
  | .good ts => p = .int .i64 0 ∧ e = .int .i64 0 ∧ w.ownsRow w0.heap.size 39 4 v ts.length (rCellsOf ts) ∧ Kept w0 w

/-- The tokens so far. -/
structure RInv (s : ByteArray) (w0 : World) (R : Lx.Out) (p : Nat) (acc : List Lx.Tk) (f : Nat) (list : Value) (w : World) : Prop where
  ps : p ≤ s.size
  fuel : s.size < f + p
  run : (Lx.run f p (s.data.toList.drop p)).pre acc = R
  own : w.ownsRow w0.heap.size 39 4 list acc.length (rCellsOf acc)
  bel : Kept w0 w
  acl : acc.length ≤ p

theorem RInv.kept {s : ByteArray} {w0 : World} {R : Lx.Out} {p : Nat} {acc : List Lx.Tk} {f : Nat} {list : Value} {w w1 : World} (h : RInv s w0 R p acc f list w) (k : Kept w w1) : RInv s w0 R p acc f list w1 :=
  { h with own := own_kept h.own k, bel := h.bel.then k }

theorem RInv.fuel1 {s : ByteArray} {w0 : World} {R : Lx.Out} {p : Nat} {acc : List Lx.Tk} {f : Nat} {list : Value} {w : World} (h : RInv s w0 R p acc f list w) (hk : p < s.size) : ∃ g, f = g + 1 := ⟨f - 1, by have := h.fuel; omega⟩

theorem RInv.blank {s : ByteArray} {w0 : World} {R : Lx.Out} {k : Nat} {acc : List Lx.Tk} {f : Nat} {list : Value} {w : World} (h : RInv s w0 R k acc f list w) (hk : k < s.size) (hb : Lx.blank s[k] = true) : ∃ g, RInv s w0 R (k + 1) acc g list w := by
  obtain ⟨g, rfl⟩ := h.fuel1 hk
  have hl : k < s.data.toList.length := by simpa using hk
  have hf := h.fuel
  have ha := h.acl
  refine ⟨g, hk, by omega, ?_, h.own, h.bel, by omega⟩
  rw [← Lx.step_blank s.data.toList g k acc hl (by rw [byte_at s k hk]; exact hb)]; exact h.run

theorem RInv.note {s : ByteArray} {w0 : World} {R : Lx.Out} {k : Nat} {acc : List Lx.Tk} {f : Nat} {list : Value} {w : World} (h : RInv s w0 R k acc f list w) (hk : k < s.size) (hn : s[k] = 35) : ∃ g, RInv s w0 R (Lx.span Lx.noFeed s.data.toList k) acc g list w := by
  obtain ⟨g, rfl⟩ := h.fuel1 hk
  have hl : k < s.data.toList.length := by simpa using hk
  have e2 : s.data.toList[k] = 35 := (byte_at s k hk).trans hn
  have hf := h.fuel
  have ha := h.acl
  have hsp := Lx.span_yes Lx.noFeed s.data.toList k hl (by rw [e2]; decide)
  have h1 := Lx.le_span Lx.noFeed s.data.toList (k + 1)
  have h2 := Lx.span_le Lx.noFeed s.data.toList (k + 1) (by omega)
  have hll : s.data.toList.length = s.size := by simp
  refine ⟨g, by omega, by omega, ?_, h.own, h.bel, by omega⟩
  rw [hsp, ← Lx.step_note s.data.toList g k acc hl e2]; exact h.run

end Go.Proofs.YtfjeijjllgocdaaDoor
