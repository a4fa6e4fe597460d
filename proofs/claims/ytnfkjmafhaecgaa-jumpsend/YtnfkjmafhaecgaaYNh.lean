/- Nh -/
import Derived.Test.YtnfkjmafhaecgaaYNg
import Derived.Test.YtnfkjmafhaecgaaYHdA
import Derived.Deep.LoopGhost

namespace Go.Proofs.Ytnfkjmafhaecgaa
open Go.RowKit
attribute [local go_sem] run_store_complex
/-- What a statement may be: its texts are no longer than Go allows, its expression is not too big. -/
structure Fit (s : St) : Prop where
  e : s.e.size ≤ 1073741823
  nm : s.name.size ≤ maxLen
  to : ∀ x ∈ s.touches, x.size ≤ maxLen
theorem own_top {w : World} {base e g : Nat} {n cap : Nat} {xs : List Value} {x y : Value} (h : w.ownsRow base e 1 (.slice (some ⟨g, 0, none⟩) (n + 1) cap) (n + 1) (xs ++ [x])) : (w.setCell ⟨g, n, none⟩ y).ownsRow base e 1 (.slice (some ⟨g, 0, none⟩) (n + 1) cap) (n + 1) (xs ++ [y]) := by
  have hx : xs.length = n := by have := h.1; simp at this; omega
  have := (h.stored n y).1
  rwa [show (xs ++ [x]).set n y = xs ++ [y] by rw [← hx]; simp] at this
theorem own_fz {w : World} {base e size g n cap : Nat} {xs : List Value} (h : w.ownsRow base e size (.slice (some ⟨g, 0, none⟩) n cap) n xs) (j : Nat) : w.frozen? ⟨g, j, none⟩ = false := by
  rcases h.2 with ⟨h0, _⟩ | ⟨g', cap', cur, h0, hb, hg, _⟩
  · cases h0
  · injection h0 with h0
    injection h0 with h0
    injection h0 with h0
    subst h0
    exact frozen_of_row w g j cur _ hg
/-- What is left on the stack, in order. -/
def remOf (ps : List (List St × Value)) : List St := ps.reverse.flatMap fun p => St.flats p.1
def workOf (ps : List (List St × Value)) : Nat := 3 * ((ps.map fun p => St.sizes p.1).sum) + ps.length
theorem rem_snoc (ps : List (List St × Value)) (p : List St × Value) : remOf (ps ++ [p]) = St.flats p.1 ++ remOf ps := by simp [remOf]
theorem work_snoc (ps : List (List St × Value)) (p : List St × Value) : workOf (ps ++ [p]) = workOf ps + 3 * St.sizes p.1 + 1 := by simp [workOf]; omega
theorem flats_cons (a : St) (l : List St) : St.flats (a :: l) = a :: (St.flats a.body ++ (St.flats a.els ++ St.flats l)) := by rw [St.flats, St.flat_eq]; simp
theorem wrong_cons_yes {d : List Dc} {s : St} {l : List St} (h : Nf.right d s = true) : Nf.wrong d (s :: l) = Nf.wrong d l := by unfold Nf.wrong; rw [List.find?_cons]; rw [h]; rfl
/-- Where firstWrong stands. -/
structure FW (d : List Dc) (ss : List St) (w wr : World) (B : Nat) (ps : List (List St × Value)) (v : Value) : Prop where
  row : wr.ownsRow w.heap.size 34 1 v ps.length (ps.map (·.2))
  kids : ∀ p ∈ ps, StsIn wr 0 w.heap.size p.1 p.2
  kept : Kept w wr
  wrong : Nf.wrong d (St.flats ss) = Nf.wrong d (remOf ps)
  fit : ∀ s ∈ remOf ps, Fit s
  few : workOf ps ≤ 1000000000
section
variable {d : List Dc} {ss : List St} {w wr W : World} {B : Nat} {ps qs : List (List St × Value)} {v : Value}
/-- A statement that is right: what is within it comes next. -/
theorem FW.step {s : St} {l : List St} {x x' y z : Value} {g cap : Nat} (h : FW d ss w wr B (qs ++ [(s :: l, x)]) (.slice (some ⟨g, 0, none⟩) (qs.length + 1) cap)) (hs : Nf.right d s = true) {w2 w3 wa : World} (k2 : Kept wr w2) (hx' : StsIn w2 0 w.heap.size l x') (hy : StsIn w2 0 w.heap.size s.els y) (hz : StsIn w2 0 w.heap.size s.body z) (e3 : w2.setCell ⟨g, qs.length, none⟩ x' = w3)
    {v' : Value} (hG : Grew (w3.alloc (.cells #[y, z] 34)) w.heap.size 34 1 (.slice (some ⟨g, 0, none⟩) (qs.length + 1) cap) (qs.length + 1) (qs.map (·.2) ++ [x']) 2 [y, z] v' wa) :
    FW d ss w wa B (qs ++ [(l, x'), (s.els, y), (s.body, z)]) v' := by
  have hgb : w.heap.size ≤ g := (h.row.lt g rfl).1
  have hz2 : w.heap.size ≤ w2.heap.size := Nat.le_trans h.kept.size k2.size
  have hst : Stays 0 w.heap.size w2 wa := by
    intro k hk
    have h1 : k < w.heap.size := hk.2
    have hsz3 : w3.heap.size = w2.heap.size := by rw [← e3]; exact setCell_size ..
    have e1 : wa.heap[k]? = (w3.alloc (.cells #[y, z] 34)).heap[k]? := hG.grown.block k (by simp; omega) (fun e => by injection e with e; have e' : k = g := e; omega)
    rw [e1, ((Kept.refl w3).al (.cells #[y, z] 34)).block k (by omega), ← e3]
    exact heap_setCells g [x'] qs.length w2 k (by omega)
  have hw := h.wrong
  have hf := h.fit
  have hk := h.few
  rw [rem_snoc, flats_cons] at hw hf
  rw [work_snoc, St.sizes] at hk
  have hrem : remOf (qs ++ [(l, x'), (s.els, y), (s.body, z)]) = St.flats s.body ++ (St.flats s.els ++ (St.flats l ++ remOf qs)) := by simp [remOf]
  have hp : ∀ p ∈ qs, StsIn w2 0 w.heap.size p.1 p.2 := fun p hp => (h.kids p (List.mem_append_left _ hp)).stays (k2.stays h.kept.size)
  refine ⟨?_, fun p hpm => ?_, ?_, ?_, ?_, ?_⟩
  · have := hG.own
    simpa using this
  · rcases List.mem_append.1 hpm with h1 | h1
    · exact (hp p h1).stays hst
    · simp at h1
      rcases h1 with rfl | rfl | rfl
      · exact hx'.stays hst
      · exact hy.stays hst
      · exact hz.stays hst
  · have k3 : Kept w w3 := by rw [← e3]; exact Below.setCell (h.kept.then k2) hgb _
    have hsz3 : w3.heap.size = w2.heap.size := by rw [← e3]; exact setCell_size ..
    refine hG.below ?_ (Nat.le_refl _) (by simp; omega) (k3.al _)
    have hr := h.row
    rw [List.map_append, List.length_append, List.length_singleton] at hr
    have r2 : w2.ownsRow w.heap.size 34 1 (.slice (some ⟨g, 0, none⟩) (qs.length + 1) cap) (qs.length + 1) (qs.map (·.2) ++ [x]) := by
      refine hr.kept (Grow.kept (.slice none 0 0) k2).grown ?_
      simp [Value.ownBlock]
    have r3 := own_top (y := x') r2
    rw [e3] at r3
    exact r3.kept (Grow.kept (.slice none 0 0) ((Kept.refl w3).al _)).grown (by simp [Value.ownBlock])
  · rw [hw, hrem]
    have e : (s :: (St.flats s.body ++ (St.flats s.els ++ St.flats l))) ++ remOf qs = s :: (St.flats s.body ++ (St.flats s.els ++ (St.flats l ++ remOf qs))) := by simp
    rw [e, wrong_cons_yes hs]
  · intro t ht
    rw [hrem] at ht
    exact hf t (by simp at ht ⊢; exact .inr ht)
  · have hss := St.size_eq s
    have : workOf (qs ++ [(l, x'), (s.els, y), (s.body, z)]) = workOf qs + 3 * (St.sizes l + St.sizes s.els + St.sizes s.body) + 3 := by simp [workOf]; omega
    omega
end
end Go.Proofs.Ytnfkjmafhaecgaa
