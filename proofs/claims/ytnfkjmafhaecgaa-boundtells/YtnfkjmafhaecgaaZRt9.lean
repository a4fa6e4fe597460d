/- Rl8 Tq Rt9 -/
import Derived.Test.YtnfkjmafhaecgaaZBs
import Derived.Test.YtnfkjmafhaecgaaZPaC
import Derived.BigQuiet
import Derived.Deep.QuietTactic
import Derived.Deep.RegionHeld3
import Derived.Deep.RegionWith

namespace Go.Proofs.Ytnfkjmafhaecgaa
open Go.RowKit
attribute [local go_sem] run_store_complex
def flatTs : List (List St) → List St
  | [] => []
  | a :: l => St.flats a ++ flatTs l
end Go.Proofs.Ytnfkjmafhaecgaa

namespace Go.Proofs.Ytnfkjmafhaecgaa
open Go.RowKit
attribute [local go_sem] run_store_complex
theorem Ex.cells_one (e : Ex) (a : Option Addr) (n q : Nat) : ∀ u ∈ e.cells (.slice a n q), u.oneCell' = true := by
  intro u hu
  simp [Ex.cells] at hu
  rcases hu with rfl | rfl | rfl | rfl <;> rfl
theorem Dc.cells_one (d : Dc) : ∀ u ∈ d.cells, u.oneCell' = true := by
  intro u hu
  simp [Dc.cells] at hu
  rcases hu with rfl | rfl | rfl | rfl <;> rfl
/-- Values of one cell each lie in memory, as the slice v says. -/
structure ValsD (w : World) (D : Nat → Prop) (l : List Value) (v : Value) : Prop where
  out : ∃ (a : Option Addr) (cap : Nat), v = .slice a l.length cap ∧ Slc a l.length cap ∧ RowAt w D a l.length 1 (fun i => [l.getD i undef])
theorem ValsD.stays {w w' : World} {D : Nat → Prop} {l : List Value} {v : Value} (h : ValsD w D l v) (hs : StaysD D w w') : ValsD w' D l v := by
  obtain ⟨a, cap, e, h1, h3⟩ := h.out
  exact ⟨a, cap, e, h1, h3.stays hs⟩
theorem ValsD.mono {w : World} {D D' : Nat → Prop} {l : List Value} {v : Value} (h : ValsD w D l v) (k1 : ∀ k, D k → D' k) : ValsD w D' l v := by
  obtain ⟨a, cap, e, h1, h3⟩ := h.out
  exact ⟨a, cap, e, h1, h3.mono k1⟩
theorem ValsD.open {w : World} {D : Nat → Prop} {l : List Value} {v : Value} (h : ValsD w D l v) : ∃ a cap, v = .slice a l.length cap ∧ l.length ≤ 9223372036854775807 ∧ l.length ≤ cap ∧ cap ≤ 9223372036854775807 := by
  obtain ⟨a, cap, rfl, hl, _⟩ := h.out; have h1 := hl.big; have h2 := hl.le; unfold maxLen at h1; exact ⟨_, _, rfl, by omega, by omega, by omega⟩
theorem ValsD.itemD {w : World} {D : Nat → Prop} {l : List Value} {a : Option Addr} {n cap : Nat} (h : ValsD w D l (.slice a n cap)) (k : Nat) (hk : k < l.length) :
    ∃ b o, a = some ⟨b, o, none⟩ ∧ D b ∧ w.cell? ⟨b, o + k, none⟩ = some l[k] := by
  obtain ⟨a, cap, e, h1, h3⟩ := h.out
  cases e
  obtain ⟨b, o, ha, k1, _, c0⟩ := h3.one k hk
  have e : l.getD k undef = l[k] := by simp [List.getD, hk]
  rw [e] at c0
  exact ⟨b, o, ha, k1, c0⟩
def strs (l : List ByteArray) : List Value := l.map Value.string
/-- Its own name, if it is one. -/
def Ex.own (e : Ex) : List ByteArray := if e.kind = 2 then [e.name] else []
theorem Ex.sizes_take (l : List Ex) (k : Nat) (h : k < l.length) : Ex.sizes (l.take (k + 1)) = Ex.sizes (l.take k) + l[k].size := by
  rw [List.take_succ_eq_append_getElem h, Ex.sizes_append]; simp [Ex.sizes]
theorem Ex.sizes_take_le (l : List Ex) (k : Nat) : Ex.sizes (l.take k) ≤ Ex.sizes l := by
  have := Ex.sizes_append (l.take k) (l.drop k)
  rw [List.take_append_drop] at this; omega
/-- The call owns the row of texts v. -/
structure OwnT (w : World) (base : Nat) (xs : List ByteArray) (v : Value) : Prop where
  row : w.ownsRow base 9 1 v xs.length (strs xs)
  le : base ≤ w.heap.size
theorem OwnT.base_le {w : World} {base : Nat} {xs : List ByteArray} {v : Value} (h : OwnT w base xs v) : ∀ k, v.ownBlock = some k → base ≤ k := fun k e => (h.row.lt k e).1
theorem OwnT.kept {w w' : World} {base : Nat} {xs : List ByteArray} {v : Value} (h : OwnT w base xs v) (k : Kept w w') : OwnT w' base xs v :=
  ⟨h.row.kept (Grow.kept (.slice none 0 0) k).grown (by cases hv : v.ownBlock <;> simp [Value.ownBlock]), Nat.le_trans h.le k.size⟩
theorem OwnT.nil (w : World) : OwnT w w.heap.size [] (.slice none 0 0) := ⟨⟨rfl, .inl ⟨rfl, rfl⟩⟩, Nat.le_refl _⟩
theorem OwnT.low {w : World} {base b : Nat} {xs : List ByteArray} {v : Value} (h : OwnT w base xs v) (hb : b ≤ base) : OwnT w b xs v :=
  ⟨⟨h.row.1, h.row.2.imp id fun ⟨g, c, cu, h1, h2, h3⟩ => ⟨g, c, cu, h1, Nat.le_trans hb h2, h3⟩⟩, Nat.le_trans hb h.le⟩
def St.touches (s : St) : List ByteArray := if s.kind = 1 then s.e.names ++ [s.name] else if s.kind = 4 ∨ s.kind = 6 ∨ s.kind = 7 then s.e.names else if s.kind = 5 then [s.other] else []
end Go.Proofs.Ytnfkjmafhaecgaa

namespace Go.Proofs.Ytnfkjmafhaecgaa
open Go.RowKit
attribute [local go_sem] run_store_complex
theorem elemInt : ElemOf Try.prog 22 3 (.int .i64 0) 1 8 := ⟨Try.underlying22, by kernel_rfl, rfl, by decide⟩
end Go.Proofs.Ytnfkjmafhaecgaa
