/- Tq Nf Ng -/
import Derived.Test.YtnfkjmafhaecgaaYBs
import Derived.Test.YtnfkjmafhaecgaaYPaC
import Derived.BigQuiet
import Derived.Deep.QuietTactic
import Derived.Deep.RegionHeld3
import Derived.Deep.RegionWith
import Derived.Test.YtnfkjmafhaecgaaYRl8
import Derived.Maps.OwnOps
import Derived.Maps.Views
import Derived.Maps.OwnSet
import Derived.Deep.LoopGhost
import Derived.StringKeys

namespace Go.Proofs.Ytnfkjmafhaecgaa
open Go.RowKit
attribute [local go_sem] run_store_complex
theorem Ex.cells_one (e : Ex) (a : Option Addr) (n q : Nat) : ∀ u ∈ e.cells (.slice a n q), u.oneCell' = true := by
  intro u hu
  simp [Ex.cells] at hu
  rcases hu with rfl | rfl | rfl | rfl <;> rfl
theorem Dc.cells_one (d : Dc) : ∀ u ∈ d.cells, u.oneCell' = true := by
  intro u hu
  simp [Dc.cells] at hu
  rcases hu with rfl | rfl | rfl | rfl <;> rfl
/-- Values of one cell each lie in memory, as the slice v says. -/
structure ValsD (w : World) (D : Nat → Prop) (l : List Value) (v : Value) : Prop where
  out : ∃ (a : Option Addr) (cap : Nat), v = .slice a l.length cap ∧ Slc a l.length cap ∧ RowAt w D a l.length 1 (fun i => [l.getD i undef])
theorem ValsD.stays {w w' : World} {D : Nat → Prop} {l : List Value} {v : Value} (h : ValsD w D l v) (hs : StaysD D w w') : ValsD w' D l v := by
  obtain ⟨a, cap, e, h1, h3⟩ := h.out
  exact ⟨a, cap, e, h1, h3.stays hs⟩
theorem ValsD.mono {w : World} {D D' : Nat → Prop} {l : List Value} {v : Value} (h : ValsD w D l v) (k1 : ∀ k, D k → D' k) : ValsD w D' l v := by
  obtain ⟨a, cap, e, h1, h3⟩ := h.out
  exact ⟨a, cap, e, h1, h3.mono k1⟩
theorem ValsD.open {w : World} {D : Nat → Prop} {l : List Value} {v : Value} (h : ValsD w D l v) : ∃ a cap, v = .slice a l.length cap ∧ l.length ≤ 9223372036854775807 ∧ l.length ≤ cap ∧ cap ≤ 9223372036854775807 := by
  obtain ⟨a, cap, rfl, hl, _⟩ := h.out; have h1 := hl.big; have h2 := hl.le; unfold maxLen at h1; exact ⟨_, _, rfl, by omega, by omega, by omega⟩
theorem ValsD.itemD {w : World} {D : Nat → Prop} {l : List Value} {a : Option Addr} {n cap : Nat} (h : ValsD w D l (.slice a n cap)) (k : Nat) (hk : k < l.length) :
    ∃ b o, a = some ⟨b, o, none⟩ ∧ D b ∧ w.cell? ⟨b, o + k, none⟩ = some l[k] := by
  obtain ⟨a, cap, e, h1, h3⟩ := h.out
  cases e
  obtain ⟨b, o, ha, k1, _, c0⟩ := h3.one k hk
  have e : l.getD k undef = l[k] := by simp [List.getD, hk]
  rw [e] at c0
  exact ⟨b, o, ha, k1, c0⟩
def strs (l : List ByteArray) : List Value := l.map Value.string
theorem strs_append (l m : List ByteArray) : strs (l ++ m) = strs l ++ strs m := by simp [strs]
/-- Its own name, if it is one. -/
def Ex.own (e : Ex) : List ByteArray := if e.kind = 2 then [e.name] else []
theorem Ex.own_len (e : Ex) : e.own.length ≤ 1 := by unfold Ex.own; split <;> simp
theorem Ex.sizes_take (l : List Ex) (k : Nat) (h : k < l.length) : Ex.sizes (l.take (k + 1)) = Ex.sizes (l.take k) + l[k].size := by
  rw [List.take_succ_eq_append_getElem h, Ex.sizes_append]; simp [Ex.sizes]
theorem Ex.sizes_take_le (l : List Ex) (k : Nat) : Ex.sizes (l.take k) ≤ Ex.sizes l := by
  have := Ex.sizes_append (l.take k) (l.drop k)
  rw [List.take_append_drop] at this; omega
/-- The call owns the row of texts v. -/
structure OwnT (w : World) (base : Nat) (xs : List ByteArray) (v : Value) : Prop where
  row : w.ownsRow base 9 1 v xs.length (strs xs)
  le : base ≤ w.heap.size
theorem OwnT.base_le {w : World} {base : Nat} {xs : List ByteArray} {v : Value} (h : OwnT w base xs v) : ∀ k, v.ownBlock = some k → base ≤ k := fun k e => (h.row.lt k e).1
theorem OwnT.kept {w w' : World} {base : Nat} {xs : List ByteArray} {v : Value} (h : OwnT w base xs v) (k : Kept w w') : OwnT w' base xs v :=
  ⟨h.row.kept (Grow.kept (.slice none 0 0) k).grown (by cases hv : v.ownBlock <;> simp [Value.ownBlock]), Nat.le_trans h.le k.size⟩
theorem OwnT.nil (w : World) : OwnT w w.heap.size [] (.slice none 0 0) := ⟨⟨rfl, .inl ⟨rfl, rfl⟩⟩, Nat.le_refl _⟩
theorem OwnT.grew {w w' : World} {base : Nat} {xs ys : List ByteArray} {v v' : Value} (h : OwnT w base xs v) (hG : Grew w base 9 1 v xs.length (strs xs) ys.length (strs ys) v' w') : OwnT w' base (xs ++ ys) v' :=
  ⟨by rw [strs_append, List.length_append]; exact hG.own, Nat.le_trans h.le hG.grown.size⟩
def St.touches (s : St) : List ByteArray := if s.kind = 1 then s.e.names ++ [s.name] else if s.kind = 4 ∨ s.kind = 6 ∨ s.kind = 7 then s.e.names else if s.kind = 5 then [s.other] else []
end Go.Proofs.Ytnfkjmafhaecgaa

namespace Go.Proofs.Ytnfkjmafhaecgaa
open Go.RowKit
attribute [local go_sem] run_store_complex
namespace Nf
/-- The kind of the first of that name; 0. -/
def kind : List Dc → ByteArray → Int
  | [], _ => 0
  | y :: d, x => if y.name = x then y.kind else kind d x
def isIn (d : List Dc) (x : ByteArray) : Bool := d.any fun y => decide (y.name = x)
def shared (k : Int) : Bool := (k == 1) || (k == 2) || (k == 3)
def plain (k : Int) : Bool := shared k || (k == 4)
/-- Its own name is of what it must be. -/
def own (d : List Dc) (s : St) : Bool := if s.kind = 2 ∨ s.kind = 3 then kind d s.name == 5 else if s.kind = 4 ∨ s.kind = 5 then kind d s.name == 6 else true
def right (d : List Dc) (s : St) : Bool := own d s && s.touches.all fun x => plain (kind d x)
def wrong (d : List Dc) (l : List St) : Option St := l.find? fun s => !right d s
/-- As Check tells it. -/
def told : Option (Nat × Nat) → Value
  | some (x, y) => .tuple #[.complex .f64 x y, .int .i64 3]
  | none => .tuple #[.complex .f64 0 0, .int .i64 0]
end Nf
theorem toL (x : ByteArray) : x.toList = x.data.toList := toList_data x
theorem eqB (a b : ByteArray) : (a.toList == b.toList) = decide (a = b) := by
  rw [toL, toL]
  by_cases h : a = b
  · subst h; simp
  · rw [decide_eq_false h]
    refine beq_false_of_ne fun e => h ?_
    have := Array.toList_inj.1 e
    cases a; cases b; simp at this; rw [this]
end Go.Proofs.Ytnfkjmafhaecgaa

namespace Go.Proofs.Ytnfkjmafhaecgaa
open Go.RowKit Go.Maps Go.WideMaps
attribute [local go_sem] run_store_complex
theorem lawS : Keyed Try.prog 9 := string_keyed Try.underlying9
theorem zeroI (w : World) : (zeroValue 3).run Try.prog w = .ok (.int .i64 0) w := by kernel_rfl
theorem at_intQ {a b : Int} (h : (DataW.lit (.int .i64 a) : DataW Unit) = .lit (.int .i64 b)) : a = b := by cases h; rfl
set_option maxRecDepth 100000 in
theorem plain_inv {v : Value} {c : Int} {ps : List MemPlace} (h : (plainElem Try.prog 3 v : Option (DataW Unit × List MemPlace)) = some (.lit (.int .i64 c), ps)) : v = .int .i64 c := by
  unfold plainElem at h
  rw [Try.underlying3] at h
  cases v with
  | int q a =>
    simp only at h
    split at h
    · rename_i hc
      simp only [Option.some.injEq, Prod.mk.injEq] at h
      obtain ⟨h1, -⟩ := h
      rw [hc.1, at_intQ h1]
    · cases h
  | _ => simp at h
theorem kind_app (d : List Dc) (y : Dc) (hn : Nf.isIn d y.name = false) (x : ByteArray) : Nf.kind (d ++ [y]) x = if x = y.name then y.kind else Nf.kind d x := by
  induction d with
  | nil => simp only [List.nil_append, Nf.kind]; by_cases h : x = y.name
           · rw [if_pos h.symm, if_pos h]
           · rw [if_neg (fun e => h e.symm), if_neg h]
  | cons z d ih =>
    have h1 : Nf.isIn d y.name = false := by unfold Nf.isIn at hn ⊢; simp at hn ⊢; exact hn.2
    have h2 : z.name ≠ y.name := by unfold Nf.isIn at hn; simp at hn; exact hn.1
    rw [List.cons_append, Nf.kind, Nf.kind, ih h1]
    by_cases hz : z.name = x
    · subst hz; rw [if_pos rfl, if_pos rfl, if_neg h2]
    · rw [if_neg hz, if_neg hz]
theorem isIn_app (d : List Dc) (y : Dc) (x : ByteArray) : Nf.isIn (d ++ [y]) x = (Nf.isIn d x || decide (y.name = x)) := by
  unfold Nf.isIn; simp
theorem lit_ne {x y : ByteArray} (h : x ≠ y) : (Lit.string x.data.toList) ≠ .string y.data.toList := by
  intro e
  injection e with e
  apply h
  have := Array.toList_inj.1 e
  cases x; cases y; simp at this; rw [this]
theorem wf64 {n : Int} (h : -9223372036854775808 ≤ n ∧ n ≤ 9223372036854775807) : (Lit.int .i64 n).wf = true := by
  simp [Lit.wf, IntKind.min, IntKind.max, IntKind.signed, IntKind.bits]
  omega
/-- The map of kinds: of each name declared so far its kind. -/
structure KM (w : World) (B : Nat) (d : List Dc) : Prop where
  out : ∃ (n : Nat) (D : DataW Unit), w.ownsMap Try.prog 9 (plainElem Try.prog 3) B n D ∧ n ≤ d.length ∧ (∀ x : ByteArray, D.atKey (.string x.data.toList) (.lit (.int .i64 0)) = .lit (.int .i64 (Nf.kind d x))) ∧ (∀ x : ByteArray, Maps.has D (.string x.data.toList) = Nf.isIn d x)
theorem KM.lt {w : World} {B : Nat} {d : List Dc} (h : KM w B d) : B < w.heap.size := by
  obtain ⟨n, D, ho, -⟩ := h.out
  exact ho.lt
theorem KM.same {w w' : World} {B : Nat} {d : List Dc} (h : KM w B d) (e : w'.heap[B]? = w.heap[B]?) : KM w' B d := by
  obtain ⟨n, D, ho, r⟩ := h.out
  obtain ⟨es, clock, hb, Ft, hs, hD⟩ := ho
  exact ⟨n, D, ⟨es, clock, e.trans hb, Ft, hs, hD⟩, r⟩
theorem KM.kept {w w' : World} {B : Nat} {d : List Dc} (h : KM w B d) (k : Kept w w') : KM w' B d := h.same (k.block B h.lt)
theorem KM.look {w : World} {B : Nat} {d : List Dc} (h : KM w B d) (x : ByteArray) (hx : x.size ≤ maxLen) :
    (Instr.lookup 84 (.map (some B)) (.string x) false).run Try.prog w = .ok (.int .i64 (Nf.kind d x)) w := by
  obtain ⟨n, D, ho, -, ha, -⟩ := h.out
  obtain ⟨c, hrun, hat, hwc⟩ := ho.lookup_int lawS Try.underlying84 Try.underlying3 (zeroI w) (keyOf_string_mk Try.underlying9 hx)
  rw [ha x] at hat
  rw [hrun, at_intQ hat]
theorem KM.look_ok {w : World} {B : Nat} {d : List Dc} (h : KM w B d) (x : ByteArray) (hx : x.size ≤ maxLen) :
    (Instr.lookup 84 (.map (some B)) (.string x) true).run Try.prog w = .ok (.tuple #[.int .i64 (Nf.kind d x), .bool (Nf.isIn d x)]) w := by
  have h1 := h.look x hx
  obtain ⟨n, D, ho, -, ha, hh⟩ := h.out
  have hz : (plainElem Try.prog 3 (.int .i64 0) : Option (DataW Unit × List MemPlace)) = some (.lit (.int .i64 0), []) := by kernel_rfl
  obtain ⟨v, ps, hrun, hv⟩ := ho.look_ok lawS Try.underlying84 (zeroI w) hz (keyOf_string_mk Try.underlying9 hx)
  rw [ha x] at hv
  rw [hrun, hh x]
  rw [plain_inv hv]
theorem KM.put {w : World} {B : Nat} {d : List Dc} (h : KM w B d) (y : Dc) (hy : y.name.size ≤ maxLen) (hn : Nf.isIn d y.name = false) (hl : d.length < maxLen) (hw : -9223372036854775808 ≤ y.kind ∧ y.kind ≤ 9223372036854775807) :
    ∃ w', (Instr.mapUpdate 84 (.map (some B)) (.string y.name) (.int .i64 y.kind)).run Try.prog w = .ok () w' ∧ KM w' B (d ++ [y]) ∧ w.mapTurned w' B := by
  obtain ⟨n, D, ho, hnl, ha, hh⟩ := h.out
  have hv : (plainElem Try.prog 3 (.int .i64 y.kind) : Option (DataW Unit × List MemPlace)) = some (.lit (.int .i64 y.kind), []) := by
    exact plainElem_int Try.underlying3 (wf64 hw)
  obtain ⟨w', hrun, ho', ht⟩ := ho.store lawS Try.underlying84 (by omega) (keyOf_string_mk Try.underlying9 hy) hv
  refine ⟨w', hrun, ⟨n + 1, _, ho', by simp; omega, fun x => ?_, fun x => ?_⟩, ht⟩
  · rw [kind_app d y hn x]
    by_cases hx : x = y.name
    · subst hx
      rw [atKey_put_same ho.isMap (by trivial), if_pos rfl]
    · rw [atKey_put_other (lit_ne hx), ha, if_neg hx]
  · rw [isIn_app]
    by_cases hx : x = y.name
    · subst hx
      rw [has_put_same ho.isMap (by trivial)]; simp
    · rw [has_put_other (lit_ne hx), hh, decide_eq_false (fun e => hx e.symm), Bool.or_false]
end Go.Proofs.Ytnfkjmafhaecgaa
