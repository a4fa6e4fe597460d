/- Nf Ng Nh -/
import Derived.Test.YtnfkjmafhaecgaaZRt9
import Derived.Deep.RegionHeld3
import Derived.Deep.QuietTactic
import Derived.BigQuiet
import Derived.Maps.OwnOps
import Derived.Maps.Views
import Derived.Maps.OwnSet
import Derived.Deep.LoopGhost
import Derived.StringKeys
import Derived.Test.YtnfkjmafhaecgaaZHdA

namespace Go.Proofs.Ytnfkjmafhaecgaa
open Go.RowKit
attribute [local go_sem] run_store_complex
namespace Nf
/-- The kind of the first of that name; 0. -/
def kind : List Dc → ByteArray → Int
  | [], _ => 0
  | y :: d, x => if y.name = x then y.kind else kind d x
def isIn (d : List Dc) (x : ByteArray) : Bool := d.any fun y => decide (y.name = x)
def shared (k : Int) : Bool := (k == 1) || (k == 2) || (k == 3)
def plain (k : Int) : Bool := shared k || (k == 4)
/-- Its own name is of what it must be. -/
def own (d : List Dc) (s : St) : Bool := if s.kind = 2 ∨ s.kind = 3 then kind d s.name == 5 else if s.kind = 4 ∨ s.kind = 5 then kind d s.name == 6 else true
def right (d : List Dc) (s : St) : Bool := own d s && s.touches.all fun x => plain (kind d x)
def wrong (d : List Dc) (l : List St) : Option St := l.find? fun s => !right d s
end Nf
end Go.Proofs.Ytnfkjmafhaecgaa

namespace Go.Proofs.Ytnfkjmafhaecgaa
open Go.RowKit Go.Maps Go.WideMaps
attribute [local go_sem] run_store_complex
theorem lawS : Keyed Try.prog 9 := string_keyed Try.underlying9
theorem kind_app (d : List Dc) (y : Dc) (hn : Nf.isIn d y.name = false) (x : ByteArray) : Nf.kind (d ++ [y]) x = if x = y.name then y.kind else Nf.kind d x := by
  induction d with
  | nil => simp only [List.nil_append, Nf.kind]; by_cases h : x = y.name
           · rw [if_pos h.symm, if_pos h]
           · rw [if_neg (fun e => h e.symm), if_neg h]
  | cons z d ih =>
    have h1 : Nf.isIn d y.name = false := by unfold Nf.isIn at hn ⊢; simp at hn ⊢; exact hn.2
    have h2 : z.name ≠ y.name := by unfold Nf.isIn at hn; simp at hn; exact hn.1
    rw [List.cons_append, Nf.kind, Nf.kind, ih h1]
    by_cases hz : z.name = x
    · subst hz; rw [if_pos rfl, if_pos rfl, if_neg h2]
    · rw [if_neg hz, if_neg hz]
theorem isIn_app (d : List Dc) (y : Dc) (x : ByteArray) : Nf.isIn (d ++ [y]) x = (Nf.isIn d x || decide (y.name = x)) := by
  unfold Nf.isIn; simp
theorem lit_ne {x y : ByteArray} (h : x ≠ y) : (Lit.string x.data.toList) ≠ .string y.data.toList := by
  intro e
  injection e with e
  apply h
  have := Array.toList_inj.1 e
  cases x; cases y; simp at this; rw [this]
theorem wf64 {n : Int} (h : -9223372036854775808 ≤ n ∧ n ≤ 9223372036854775807) : (Lit.int .i64 n).wf = true := by
  simp [Lit.wf, IntKind.min, IntKind.max, IntKind.signed, IntKind.bits]
  omega
/-- The map of kinds: of each name declared so far its kind. -/
structure KM (w : World) (B : Nat) (d : List Dc) : Prop where
  out : ∃ (n : Nat) (D : DataW Unit), w.ownsMap Try.prog 9 (plainElem Try.prog 3) B n D ∧ n ≤ d.length ∧ (∀ x : ByteArray, D.atKey (.string x.data.toList) (.lit (.int .i64 0)) = .lit (.int .i64 (Nf.kind d x))) ∧ (∀ x : ByteArray, Maps.has D (.string x.data.toList) = Nf.isIn d x)
theorem KM.lt {w : World} {B : Nat} {d : List Dc} (h : KM w B d) : B < w.heap.size := by
  obtain ⟨n, D, ho, -⟩ := h.out
  exact ho.lt
theorem KM.same {w w' : World} {B : Nat} {d : List Dc} (h : KM w B d) (e : w'.heap[B]? = w.heap[B]?) : KM w' B d := by
  obtain ⟨n, D, ho, r⟩ := h.out
  obtain ⟨es, clock, hb, Ft, hs, hD⟩ := ho
  exact ⟨n, D, ⟨es, clock, e.trans hb, Ft, hs, hD⟩, r⟩
theorem KM.kept {w w' : World} {B : Nat} {d : List Dc} (h : KM w B d) (k : Kept w w') : KM w' B d := h.same (k.block B h.lt)
theorem KM.put {w : World} {B : Nat} {d : List Dc} (h : KM w B d) (y : Dc) (hy : y.name.size ≤ maxLen) (hn : Nf.isIn d y.name = false) (hl : d.length < maxLen) (hw : -9223372036854775808 ≤ y.kind ∧ y.kind ≤ 9223372036854775807) :
    ∃ w', (Instr.mapUpdate 84 (.map (some B)) (.string y.name) (.int .i64 y.kind)).run Try.prog w = .ok () w' ∧ KM w' B (d ++ [y]) ∧ w.mapTurned w' B := by
  obtain ⟨n, D, ho, hnl, ha, hh⟩ := h.out
  have hv : (plainElem Try.prog 3 (.int .i64 y.kind) : Option (DataW Unit × List MemPlace)) = some (.lit (.int .i64 y.kind), []) := by
    exact plainElem_int Try.underlying3 (wf64 hw)
  obtain ⟨w', hrun, ho', ht⟩ := ho.store lawS Try.underlying84 (by omega) (keyOf_string_mk Try.underlying9 hy) hv
  refine ⟨w', hrun, ⟨n + 1, _, ho', by simp; omega, fun x => ?_, fun x => ?_⟩, ht⟩
  · rw [kind_app d y hn x]
    by_cases hx : x = y.name
    · subst hx
      rw [atKey_put_same ho.isMap (by trivial), if_pos rfl]
    · rw [atKey_put_other (lit_ne hx), ha, if_neg hx]
  · rw [isIn_app]
    by_cases hx : x = y.name
    · subst hx
      rw [has_put_same ho.isMap (by trivial)]; simp
    · rw [has_put_other (lit_ne hx), hh, decide_eq_false (fun e => hx e.symm), Bool.or_false]
end Go.Proofs.Ytnfkjmafhaecgaa

namespace Go.Proofs.Ytnfkjmafhaecgaa
open Go.RowKit
attribute [local go_sem] run_store_complex
/-- What a statement may be: its texts are no longer than Go allows, its expression is not too big. -/
structure Fit (s : St) : Prop where
  e : s.e.size ≤ 1073741823
  nm : s.name.size ≤ maxLen
  to : ∀ x ∈ s.touches, x.size ≤ maxLen
theorem own_top {w : World} {base e g : Nat} {n cap : Nat} {xs : List Value} {x y : Value} (h : w.ownsRow base e 1 (.slice (some ⟨g, 0, none⟩) (n + 1) cap) (n + 1) (xs ++ [x])) : (w.setCell ⟨g, n, none⟩ y).ownsRow base e 1 (.slice (some ⟨g, 0, none⟩) (n + 1) cap) (n + 1) (xs ++ [y]) := by
  have hx : xs.length = n := by have := h.1; simp at this; omega
  have := (h.stored n y).1
  rwa [show (xs ++ [x]).set n y = xs ++ [y] by rw [← hx]; simp] at this
/-- What is left on the stack, in order. -/
def remOf (ps : List (List St × Value)) : List St := ps.reverse.flatMap fun p => St.flats p.1
def workOf (ps : List (List St × Value)) : Nat := 3 * ((ps.map fun p => St.sizes p.1).sum) + ps.length
theorem rem_snoc (ps : List (List St × Value)) (p : List St × Value) : remOf (ps ++ [p]) = St.flats p.1 ++ remOf ps := by simp [remOf]
theorem work_snoc (ps : List (List St × Value)) (p : List St × Value) : workOf (ps ++ [p]) = workOf ps + 3 * St.sizes p.1 + 1 := by simp [workOf]; omega
theorem flats_cons (a : St) (l : List St) : St.flats (a :: l) = a :: (St.flats a.body ++ (St.flats a.els ++ St.flats l)) := by rw [St.flats, St.flat_eq]; simp
theorem wrong_cons_yes {d : List Dc} {s : St} {l : List St} (h : Nf.right d s = true) : Nf.wrong d (s :: l) = Nf.wrong d l := by unfold Nf.wrong; rw [List.find?_cons]; rw [h]; rfl
/-- Where firstWrong stands. -/
structure FW (d : List Dc) (ss : List St) (w wr : World) (B : Nat) (ps : List (List St × Value)) (v : Value) : Prop where
  row : wr.ownsRow w.heap.size 34 1 v ps.length (ps.map (·.2))
  kids : ∀ p ∈ ps, StsIn wr 0 w.heap.size p.1 p.2
  kept : Kept w wr
  wrong : Nf.wrong d (St.flats ss) = Nf.wrong d (remOf ps)
  fit : ∀ s ∈ remOf ps, Fit s
  few : workOf ps ≤ 1000000000
section
variable {d : List Dc} {ss : List St} {w wr W : World} {B : Nat} {ps qs : List (List St × Value)} {v : Value}
/-- A statement that is right: what is within it comes next. -/
theorem FW.step {s : St} {l : List St} {x x' y z : Value} {g cap : Nat} (h : FW d ss w wr B (qs ++ [(s :: l, x)]) (.slice (some ⟨g, 0, none⟩) (qs.length + 1) cap)) (hs : Nf.right d s = true) {w2 w3 wa : World} (k2 : Kept wr w2) (hx' : StsIn w2 0 w.heap.size l x') (hy : StsIn w2 0 w.heap.size s.els y) (hz : StsIn w2 0 w.heap.size s.body z) (e3 : w2.setCell ⟨g, qs.length, none⟩ x' = w3)
    {v' : Value} (hG : Grew (w3.alloc (.cells #[y, z] 34)) w.heap.size 34 1 (.slice (some ⟨g, 0, none⟩) (qs.length + 1) cap) (qs.length + 1) (qs.map (·.2) ++ [x']) 2 [y, z] v' wa) :
    FW d ss w wa B (qs ++ [(l, x'), (s.els, y), (s.body, z)]) v' := by
  have hgb : w.heap.size ≤ g := (h.row.lt g rfl).1
  have hz2 : w.heap.size ≤ w2.heap.size := Nat.le_trans h.kept.size k2.size
  have hst : Stays 0 w.heap.size w2 wa := by
    intro k hk
    have h1 : k < w.heap.size := hk.2
    have hsz3 : w3.heap.size = w2.heap.size := by rw [← e3]; exact setCell_size ..
    have e1 : wa.heap[k]? = (w3.alloc (.cells #[y, z] 34)).heap[k]? := hG.grown.block k (by simp; omega) (fun e => by injection e with e; have e' : k = g := e; omega)
    rw [e1, ((Kept.refl w3).al (.cells #[y, z] 34)).block k (by omega), ← e3]
    exact heap_setCells g [x'] qs.length w2 k (by omega)
  have hw := h.wrong
  have hf := h.fit
  have hk := h.few
  rw [rem_snoc, flats_cons] at hw hf
  rw [work_snoc, St.sizes] at hk
  have hrem : remOf (qs ++ [(l, x'), (s.els, y), (s.body, z)]) = St.flats s.body ++ (St.flats s.els ++ (St.flats l ++ remOf qs)) := by simp [remOf]
  have hp : ∀ p ∈ qs, StsIn w2 0 w.heap.size p.1 p.2 := fun p hp => (h.kids p (List.mem_append_left _ hp)).stays (k2.stays h.kept.size)
  refine ⟨?_, fun p hpm => ?_, ?_, ?_, ?_, ?_⟩
  · have := hG.own
    simpa using this
  · rcases List.mem_append.1 hpm with h1 | h1
    · exact (hp p h1).stays hst
    · simp at h1
      rcases h1 with rfl | rfl | rfl
      · exact hx'.stays hst
      · exact hy.stays hst
      · exact hz.stays hst
  · have k3 : Kept w w3 := by rw [← e3]; exact Below.setCell (h.kept.then k2) hgb _
    have hsz3 : w3.heap.size = w2.heap.size := by rw [← e3]; exact setCell_size ..
    refine hG.below ?_ (Nat.le_refl _) (by simp; omega) (k3.al _)
    have hr := h.row
    rw [List.map_append, List.length_append, List.length_singleton] at hr
    have r2 : w2.ownsRow w.heap.size 34 1 (.slice (some ⟨g, 0, none⟩) (qs.length + 1) cap) (qs.length + 1) (qs.map (·.2) ++ [x]) := by
      refine hr.kept (Grow.kept (.slice none 0 0) k2).grown ?_
      simp [Value.ownBlock]
    have r3 := own_top (y := x') r2
    rw [e3] at r3
    exact r3.kept (Grow.kept (.slice none 0 0) ((Kept.refl w3).al _)).grown (by simp [Value.ownBlock])
  · rw [hw, hrem]
    have e : (s :: (St.flats s.body ++ (St.flats s.els ++ St.flats l))) ++ remOf qs = s :: (St.flats s.body ++ (St.flats s.els ++ (St.flats l ++ remOf qs))) := by simp
    rw [e, wrong_cons_yes hs]
  · intro t ht
    rw [hrem] at ht
    exact hf t (by simp at ht ⊢; exact .inr ht)
  · have hss := St.size_eq s
    have : workOf (qs ++ [(l, x'), (s.els, y), (s.body, z)]) = workOf qs + 3 * (St.sizes l + St.sizes s.els + St.sizes s.body) + 3 := by simp [workOf]; omega
    omega
end
end Go.Proofs.Ytnfkjmafhaecgaa
