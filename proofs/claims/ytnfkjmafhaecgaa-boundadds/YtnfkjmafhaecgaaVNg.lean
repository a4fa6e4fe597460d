/- Nf Ng -/
import Derived.Test.YtnfkjmafhaecgaaVTq
import Derived.Deep.RegionHeld3
import Derived.Deep.QuietTactic
import Derived.BigQuiet
import Derived.Maps.OwnOps
import Derived.Maps.Views
import Derived.Maps.OwnSet
import Derived.Deep.LoopGhost
import Derived.StringKeys

namespace Go.Proofs.Ytnfkjmafhaecgaa
open Go.RowKit
attribute [local go_sem] run_store_complex
namespace Nf
/-- The kind of the first of that name; 0. -/
def kind : List Dc → ByteArray → Int
  | [], _ => 0
  | y :: d, x => if y.name = x then y.kind else kind d x
def isIn (d : List Dc) (x : ByteArray) : Bool := d.any fun y => decide (y.name = x)
def shared (k : Int) : Bool := (k == 1) || (k == 2) || (k == 3)
def plain (k : Int) : Bool := shared k || (k == 4)
/-- Its own name is of what it must be. -/
def own (d : List Dc) (s : St) : Bool := if s.kind = 2 ∨ s.kind = 3 then kind d s.name == 5 else if s.kind = 4 ∨ s.kind = 5 then kind d s.name == 6 else true
def right (d : List Dc) (s : St) : Bool := own d s && s.touches.all fun x => plain (kind d x)
def wrong (d : List Dc) (l : List St) : Option St := l.find? fun s => !right d s
end Nf
end Go.Proofs.Ytnfkjmafhaecgaa

namespace Go.Proofs.Ytnfkjmafhaecgaa
open Go.RowKit Go.Maps Go.WideMaps
attribute [local go_sem] run_store_complex
theorem lawS : Keyed Try.prog 9 := string_keyed Try.underlying9
theorem kind_app (d : List Dc) (y : Dc) (hn : Nf.isIn d y.name = false) (x : ByteArray) : Nf.kind (d ++ [y]) x = if x = y.name then y.kind else Nf.kind d x := by
  induction d with
  | nil => simp only [List.nil_append, Nf.kind]; by_cases h : x = y.name
           · rw [if_pos h.symm, if_pos h]
           · rw [if_neg (fun e => h e.symm), if_neg h]
  | cons z d ih =>
    have h1 : Nf.isIn d y.name = false := by unfold Nf.isIn at hn ⊢; simp at hn ⊢; exact hn.2
    have h2 : z.name ≠ y.name := by unfold Nf.isIn at hn; simp at hn; exact hn.1
    rw [List.cons_append, Nf.kind, Nf.kind, ih h1]
    by_cases hz : z.name = x
    · subst hz; rw [if_pos rfl, if_pos rfl, if_neg h2]
    · rw [if_neg hz, if_neg hz]
theorem isIn_app (d : List Dc) (y : Dc) (x : ByteArray) : Nf.isIn (d ++ [y]) x = (Nf.isIn d x || decide (y.name = x)) := by
  unfold Nf.isIn; simp
theorem lit_ne {x y : ByteArray} (h : x ≠ y) : (Lit.string x.data.toList) ≠ .string y.data.toList := by
  intro e
  injection e with e
  apply h
  have := Array.toList_inj.1 e
  cases x; cases y; simp at this; rw [this]
theorem wf64 {n : Int} (h : -9223372036854775808 ≤ n ∧ n ≤ 9223372036854775807) : (Lit.int .i64 n).wf = true := by
  simp [Lit.wf, IntKind.min, IntKind.max, IntKind.signed, IntKind.bits]
  omega
/-- The map of kinds: of each name declared so far its kind. -/
structure KM (w : World) (B : Nat) (d : List Dc) : Prop where
  out : ∃ (n : Nat) (D : DataW Unit), w.ownsMap Try.prog 9 (plainElem Try.prog 3) B n D ∧ n ≤ d.length ∧ (∀ x : ByteArray, D.atKey (.string x.data.toList) (.lit (.int .i64 0)) = .lit (.int .i64 (Nf.kind d x))) ∧ (∀ x : ByteArray, Maps.has D (.string x.data.toList) = Nf.isIn d x)
theorem KM.lt {w : World} {B : Nat} {d : List Dc} (h : KM w B d) : B < w.heap.size := by
  obtain ⟨n, D, ho, -⟩ := h.out
  exact ho.lt
theorem KM.same {w w' : World} {B : Nat} {d : List Dc} (h : KM w B d) (e : w'.heap[B]? = w.heap[B]?) : KM w' B d := by
  obtain ⟨n, D, ho, r⟩ := h.out
  obtain ⟨es, clock, hb, Ft, hs, hD⟩ := ho
  exact ⟨n, D, ⟨es, clock, e.trans hb, Ft, hs, hD⟩, r⟩
theorem KM.kept {w w' : World} {B : Nat} {d : List Dc} (h : KM w B d) (k : Kept w w') : KM w' B d := h.same (k.block B h.lt)
theorem KM.put {w : World} {B : Nat} {d : List Dc} (h : KM w B d) (y : Dc) (hy : y.name.size ≤ maxLen) (hn : Nf.isIn d y.name = false) (hl : d.length < maxLen) (hw : -9223372036854775808 ≤ y.kind ∧ y.kind ≤ 9223372036854775807) :
    ∃ w', (Instr.mapUpdate 84 (.map (some B)) (.string y.name) (.int .i64 y.kind)).run Try.prog w = .ok () w' ∧ KM w' B (d ++ [y]) ∧ w.mapTurned w' B := by
  obtain ⟨n, D, ho, hnl, ha, hh⟩ := h.out
  have hv : (plainElem Try.prog 3 (.int .i64 y.kind) : Option (DataW Unit × List MemPlace)) = some (.lit (.int .i64 y.kind), []) := by
    exact plainElem_int Try.underlying3 (wf64 hw)
  obtain ⟨w', hrun, ho', ht⟩ := ho.store lawS Try.underlying84 (by omega) (keyOf_string_mk Try.underlying9 hy) hv
  refine ⟨w', hrun, ⟨n + 1, _, ho', by simp; omega, fun x => ?_, fun x => ?_⟩, ht⟩
  · rw [kind_app d y hn x]
    by_cases hx : x = y.name
    · subst hx
      rw [atKey_put_same ho.isMap (by trivial), if_pos rfl]
    · rw [atKey_put_other (lit_ne hx), ha, if_neg hx]
  · rw [isIn_app]
    by_cases hx : x = y.name
    · subst hx
      rw [has_put_same ho.isMap (by trivial)]; simp
    · rw [has_put_other (lit_ne hx), hh, decide_eq_false (fun e => hx e.symm), Bool.or_false]
end Go.Proofs.Ytnfkjmafhaecgaa
