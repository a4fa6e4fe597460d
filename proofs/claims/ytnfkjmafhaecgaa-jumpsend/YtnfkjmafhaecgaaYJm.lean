/- Jm -/
import Derived.Test.YtnfkjmafhaecgaaYJx
import Derived.Test.YtnfkjmafhaecgaaYNg

namespace Go.Proofs.Ytnfkjmafhaecgaa
open Go.RowKit Jf Go.Maps Go.WideMaps
attribute [local go_sem] run_store_complex
def heldR (v : Value) : Option (DataW Value × List MemPlace) := some (.held v, [])
/-- A map of names: what is under each; z: what is under none. -/
structure MF (w : World) (B n : Nat) (z : Value) (f : ByteArray → Option Value) : Prop where
  out : ∃ D : DataW Value, w.ownsMap Try.prog 9 heldR B n D ∧ (∀ x : ByteArray, D.atKey (.string x.data.toList) (.held z) = .held ((f x).getD z)) ∧ (∀ x : ByteArray, Maps.has D (.string x.data.toList) = (f x).isSome)
theorem MF.lt {w : World} {B n : Nat} {z : Value} {f : ByteArray → Option Value} (h : MF w B n z f) : B < w.heap.size := by
  obtain ⟨D, ho, -⟩ := h.out
  exact ho.lt
theorem MF.same {w w' : World} {B n : Nat} {z : Value} {f : ByteArray → Option Value} (h : MF w B n z f) (e : w'.heap[B]? = w.heap[B]?) : MF w' B n z f := by
  obtain ⟨D, ho, r⟩ := h.out
  obtain ⟨es, clock, hb, Ft, hs, hD⟩ := ho
  exact ⟨D, ⟨es, clock, e.trans hb, Ft, hs, hD⟩, r⟩
theorem MF.kept {w w' : World} {B n : Nat} {z : Value} {f : ByteArray → Option Value} (h : MF w B n z f) (k : Kept w w') : MF w' B n z f := h.same (k.block B h.lt)
set_option maxRecDepth 100000 in
theorem MF.made (w : World) (z : Value) : MF (w.alloc (.map #[] 0)) w.heap.size 0 z fun _ => none := by
  refine ⟨.map [], World.ownsMap_made .., fun x => ?_, fun x => ?_⟩
  · exact atKey_of_not_has (by rfl) _
  · rfl
theorem held_inj {a b : Value} (h : (DataW.held a : DataW Value) = .held b) : a = b := by cases h; rfl
set_option maxRecDepth 100000 in
theorem MF.look {t e : TypeId} {w : World} {B n : Nat} {z : Value} {f : ByteArray → Option Value} (h : MF w B n z f) (ht : Try.prog.underlying t = some (.map 9 e)) (hz : (zeroValue e).run Try.prog w = .ok z w) (x : ByteArray) (hx : x.size ≤ maxLen) :
    (Instr.lookup t (.map (some B)) (.string x) true).run Try.prog w = .ok (.tuple #[(f x).getD z, .bool (f x).isSome]) w := by
  obtain ⟨D, ho, ha, hh⟩ := h.out
  obtain ⟨v, ps, hrun, hv⟩ := ho.look_ok lawS ht hz (zd := .held z) (zp := []) rfl (keyOf_string_mk Try.underlying9 hx)
  rw [ha x] at hv
  rw [hrun, hh x]
  unfold heldR at hv
  injection hv with hv
  injection hv with hv
  rw [held_inj hv]
set_option maxRecDepth 100000 in
theorem MF.put {t e : TypeId} {w : World} {B n : Nat} {z : Value} {f : ByteArray → Option Value} (h : MF w B n z f) (ht : Try.prog.underlying t = some (.map 9 e)) (y : ByteArray) (hy : y.size ≤ maxLen) (hn : n < maxLen) (v : Value) :
    ∃ w', (Instr.mapUpdate t (.map (some B)) (.string y) v).run Try.prog w = .ok () w' ∧ MF w' B (n + 1) z (fun x => if x = y then some v else f x) ∧ w.mapTurned w' B := by
  obtain ⟨D, ho, ha, hh⟩ := h.out
  obtain ⟨w', hrun, ho', ht'⟩ := ho.store lawS ht hn (keyOf_string_mk Try.underlying9 hy) (val := v) (d := .held v) (ps := []) rfl
  refine ⟨w', hrun, ⟨_, ho', fun x => ?_, fun x => ?_⟩, ht'⟩
  · by_cases hx : x = y
    · subst hx
      rw [atKey_put_same ho.isMap (by trivial), if_pos rfl]; rfl
    · rw [atKey_put_other (lit_ne hx), ha, if_neg hx]
  · by_cases hx : x = y
    · subst hx
      rw [has_put_same ho.isMap (by trivial), if_pos rfl]; rfl
    · rw [has_put_other (lit_ne hx), hh, if_neg hx]
/-- The thread of the last Label of that name. -/
def lastThr : List Sp → ByteArray → Option Nat
  | [], _ => none
  | s :: r, x => match lastThr r x with
    | some v => some v
    | none => if s.lab = true ∧ s.name = x then some s.thr else none
theorem lastThr_snoc (l : List Sp) (s : Sp) (x : ByteArray) : lastThr (l ++ [s]) x = if s.lab = true ∧ s.name = x then some s.thr else lastThr l x := by
  induction l with
  | nil => simp only [List.nil_append, lastThr]
  | cons a l ih =>
    rw [List.cons_append, lastThr, ih]
    by_cases h : s.lab = true ∧ s.name = x
    · simp only [if_pos h]
    · simp only [if_neg h]; rw [lastThr]
theorem lastThr_cases (x : ByteArray) : ∀ l : List Sp, (lastThr l x = none ∧ ∀ y ∈ l, ¬ (y.lab = true ∧ y.name = x)) ∨ ∃ a y b, l = a ++ y :: b ∧ y.lab = true ∧ y.name = x ∧ lastThr l x = some y.thr ∧ ∀ z ∈ b, ¬ (z.lab = true ∧ z.name = x)
  | [] => .inl ⟨rfl, fun _ h => by cases h⟩
  | s :: l => by
    rcases lastThr_cases x l with ⟨h1, h2⟩ | ⟨a, y, b, h1, h2, h3, h4, h5⟩
    · by_cases hs : s.lab = true ∧ s.name = x
      · exact .inr ⟨[], s, l, rfl, hs.1, hs.2, by rw [lastThr, h1]; simp [hs], h2⟩
      · exact .inl ⟨by rw [lastThr, h1]; simp [hs], fun y hy => (List.mem_cons.1 hy).elim (fun e => e ▸ hs) (h2 y)⟩
    · exact .inr ⟨s :: a, y, b, by rw [h1]; rfl, h2, h3, by rw [lastThr, h4], h5⟩
/-- Where threads come one behind the other: a Label is there twice if the last one of its name is of its thread. -/
theorem twice_last {pre : List Sp} {s : Sp} (h : (pre ++ [s]).Pairwise fun a b => a.thr ≤ b.thr) : twice pre s = (s.lab && (lastThr pre s.name == some s.thr)) := by
  unfold twice
  cases hl : s.lab with
  | false => rfl
  | true =>
    rw [Bool.true_and, Bool.true_and]
    obtain ⟨p1, -, p3⟩ := List.pairwise_append.1 h
    rcases lastThr_cases s.name pre with ⟨h1, h2⟩ | ⟨a, y, b, h1, h2, h3, h4, h5⟩
    · rw [h1]
      have : (pre.any fun x => x.lab && (decide (x.name = s.name) && (x.thr == s.thr))) = false := by
        rw [List.any_eq_false]
        intro y hy hc
        simp only [Bool.and_eq_true, decide_eq_true_eq] at hc
        exact h2 y hy ⟨hc.1, hc.2.1⟩
      rw [this]; rfl
    · rw [h4]
      by_cases ht : y.thr = s.thr
      · have : (pre.any fun x => x.lab && (decide (x.name = s.name) && (x.thr == s.thr))) = true := by
          rw [List.any_eq_true]
          exact ⟨y, by rw [h1]; simp, by simp [h2, h3, ht]⟩
        rw [this, ht]; simp
      · have : (pre.any fun x => x.lab && (decide (x.name = s.name) && (x.thr == s.thr))) = false := by
          rw [List.any_eq_false]
          intro z hz hc
          simp only [Bool.and_eq_true, decide_eq_true_eq, beq_iff_eq] at hc
          rw [h1] at hz p1
          have hys : y.thr ≤ s.thr := p3 y (by rw [h1]; simp) s (by simp)
          rcases List.mem_append.1 hz with hz | hz
          · have := (List.pairwise_append.1 p1).2.2 z hz y (by simp)
            have := hc.2.2; omega
          · rcases List.mem_cons.1 hz with rfl | hz
            · exact ht hc.2.2
            · exact h5 z hz ⟨hc.1, hc.2.1⟩
        rw [this]
        symm
        simpa using ht
end Go.Proofs.Ytnfkjmafhaecgaa
