/- Writes into a copy: a declaration's name; a statement's place; a name. -/
import Derived.Test.YtoaaikbplnpmmaaTr
namespace Go.Proofs.Ytoaaikbplnpmmaa
open Go.RowKit

theorem DsD.other {w : World} {D : Nat → Prop} {l : List Dc} {b o n cap : Nat} (h : DsD w D l (.slice (some ⟨b, o, none⟩) n cap)) (h0 : 0 < l.length) (s : ByteArray) :
    DsD (w.setCell ⟨b, o + 1, none⟩ (.string s)) D (l.set 0 { l[0] with name := s }) (.slice (some ⟨b, o, none⟩) n cap) := by
  obtain ⟨a, cap', e, h1, h3⟩ := h.out
  cases e
  refine ⟨some ⟨b, o, none⟩, cap, by simp, by simpa using h1, ?_⟩
  intro i hi
  rw [List.length_set] at hi
  obtain ⟨b', o', ha, k1, k2, k3⟩ := h3 i hi
  cases ha
  refine ⟨b, o, rfl, k1, fun j => by rw [World.frozen?_setCell]; exact k2 j, ?_⟩
  have e : l.getD i dc0 = l[i] := by simp [List.getD, hi]
  simp only [e] at k3
  have e' : (l.set 0 { l[0] with name := s }).getD i dc0 = if i = 0 then { l[0] with name := s } else l[i] := by
    rw [List.getD, List.getElem?_set]
    by_cases hz : i = 0
    · subst hz; simp [h0]
    · simp [hz, hi, Ne.symm hz]
  simp only [e']
  intro j v hv
  by_cases hz : i = 0
  · subst hz
    simp only [if_true] at hv
    rw [Nat.zero_mul, Nat.add_zero] at k3 ⊢
    by_cases hj : j = 1
    · subst hj
      cases hv
      exact World.cell?_setCell_same _ _ _ (k3 1 _ rfl)
    · rw [World.cell?_setCell_other _ _ _ _ (by simp; omega)]
      refine k3 j v ?_
      rw [← hv]
      rcases j with _ | _ | j
      · rfl
      · exact absurd rfl hj
      · rfl
  · simp only [if_neg hz] at hv
    rw [World.cell?_setCell_other _ _ _ _ (by simp; omega)]
    exact k3 j v hv

theorem Dc.sames_other (d : List Dc) (h0 : 0 < d.length) (h : d[0].name = ⟨#[120]⟩) : Dc.sames d (d.set 0 { d[0] with name := ⟨#[111, 116, 104, 101, 114]⟩ }) = false := by
  cases d with
  | nil => simp at h0
  | cons x l =>
    have hx : x.name = ⟨#[120]⟩ := h
    rw [List.set_cons_zero, Dc.sames, Dc.same]
    simp only [List.getElem_cons_zero, hx]
    have hf : ((ByteArray.mk #[120]).toList == (ByteArray.mk #[111, 116, 104, 101, 114]).toList) = false := by simp [ByteArray.toList, ByteArray.toList.loop, ByteArray.size, ByteArray.get!]
    rw [hf]
    simp
/-! ### A write of the same form -/
/-- u' has u's form: a text, or a place. -/
inductive Alike : Value → Value → Prop where
  | str (s s' : ByteArray) : Alike (.string s) (.string s')
  | com (x y x' y' : Nat) : Alike (.complex .f64 x y) (.complex .f64 x' y')
theorem list_of {α : Type} {n : Nat} {P : Nat → α → Prop} (h : ∀ i, i < n → ∃ x, P i x) : ∃ l : List α, l.length = n ∧ ∀ i (hi : i < l.length), P i l[i] := by
  induction n with
  | zero => exact ⟨[], rfl, fun i hi => by simp at hi⟩
  | succ n ih =>
    obtain ⟨l, e, hl⟩ := ih fun i hi => h i (by omega)
    obtain ⟨x, hx⟩ := h n (by omega)
    refine ⟨l ++ [x], by simp [e], fun i hi => ?_⟩
    by_cases hn : i < l.length
    · rw [List.getElem_append_left hn]; exact hl i hn
    · have : i = n := by simp at hi; omega
      subst this
      rw [List.getElem_append_right (by omega)]
      simpa [e] using hx
theorem Alike.keep {w : World} {p a : Addr} {u u' v : Value} (hc : w.cell? a = some u) (ha : Alike u u') (hv : w.cell? p = some v) (h1 : ∀ s, v ≠ .string s) (h2 : ∀ x y, v ≠ .complex .f64 x y) : (w.setCell a u').cell? p = some v := by
  rw [World.cell?_setCell_other _ _ _ _ (by
    intro e
    have e' : p = a := by first | exact e | exact e.symm
    rw [e', hc] at hv
    cases hv
    cases ha with
    | str s s' => exact h1 _ rfl
    | com x y x' y' => exact h2 _ _ rfl)]
  exact hv
theorem Alike.str_of {w : World} {p a : Addr} {u u' : Value} (hc : w.cell? a = some u) (ha : Alike u u') {s : ByteArray} (hv : w.cell? p = some (.string s)) : ∃ s', (w.setCell a u').cell? p = some (.string s') := by
  by_cases h : p = a
  · subst h
    rw [hc] at hv
    cases hv
    cases ha with | str s s' => exact ⟨s', World.cell?_setCell_same _ _ _ hc⟩
  · exact ⟨s, by rw [World.cell?_setCell_other _ _ _ _ (by first | exact h | exact fun e => h e.symm)]; exact hv⟩
theorem Alike.com_of {w : World} {p a : Addr} {u u' : Value} (hc : w.cell? a = some u) (ha : Alike u u') {x y : Nat} (hv : w.cell? p = some (.complex .f64 x y)) : ∃ x' y', (w.setCell a u').cell? p = some (.complex .f64 x' y') := by
  by_cases h : p = a
  · subst h
    rw [hc] at hv
    cases hv
    cases ha with | com x y x' y' => exact ⟨x', y', World.cell?_setCell_same _ _ _ hc⟩
  · exact ⟨x, y, by rw [World.cell?_setCell_other _ _ _ _ (by first | exact h | exact fun e => h e.symm)]; exact hv⟩
theorem range4 {w : World} {b o : Nat} {v0 v1 v2 v3 : Value} (c0 : w.cell? ⟨b, o, none⟩ = some v0) (c1 : w.cell? ⟨b, o + 1, none⟩ = some v1) (c2 : w.cell? ⟨b, o + 2, none⟩ = some v2) (c3 : w.cell? ⟨b, o + 3, none⟩ = some v3) : w.rangeAt b o [v0, v1, v2, v3] := by
  intro j v hv
  rcases j with _ | _ | _ | _ | j
  · cases hv; exact c0
  · cases hv; exact c1
  · cases hv; exact c2
  · cases hv; exact c3
  · simp at hv
theorem range11 {w : World} {b o : Nat} {v0 v1 v2 v3 v4 v5 v6 v7 v8 v9 v10 : Value} (c0 : w.cell? ⟨b, o, none⟩ = some v0) (c1 : w.cell? ⟨b, o + 1, none⟩ = some v1) (c2 : w.cell? ⟨b, o + 2, none⟩ = some v2) (c3 : w.cell? ⟨b, o + 3, none⟩ = some v3) (c4 : w.cell? ⟨b, o + 4, none⟩ = some v4) (c5 : w.cell? ⟨b, o + 5, none⟩ = some v5) (c6 : w.cell? ⟨b, o + 6, none⟩ = some v6) (c7 : w.cell? ⟨b, o + 7, none⟩ = some v7) (c8 : w.cell? ⟨b, o + 8, none⟩ = some v8) (c9 : w.cell? ⟨b, o + 9, none⟩ = some v9) (c10 : w.cell? ⟨b, o + 10, none⟩ = some v10) : w.rangeAt b o [v0, v1, v2, v3, v4, v5, v6, v7, v8, v9, v10] := by
  intro j v hv
  rcases j with _ | _ | _ | _ | _ | _ | _ | _ | _ | _ | _ | j
  · cases hv; exact c0
  · cases hv; exact c1
  · cases hv; exact c2
  · cases hv; exact c3
  · cases hv; exact c4
  · cases hv; exact c5
  · cases hv; exact c6
  · cases hv; exact c7
  · cases hv; exact c8
  · cases hv; exact c9
  · cases hv; exact c10
  · simp at hv
theorem ExsD.turn {w : World} {D : Nat → Prop} {l : List Ex} {v : Value} (h : ExsD w D l v) {a : Addr} {u u' : Value} (hc : w.cell? a = some u) (ha : Alike u u') : ∃ l', ExsD (w.setCell a u') D l' v := by
  induction h with
  | mk l a0 cap f hl hr hk ih =>
    obtain ⟨l', e, H⟩ := list_of (n := l.length) (P := fun i (x : Ex) => (∃ b o, a0 = some ⟨b, o, none⟩ ∧ D b ∧ (∀ j, (w.setCell a u').frozen? ⟨b, j, none⟩ = false) ∧ (w.setCell a u').rangeAt b (o + i * 4) (x.cells (f i))) ∧ ExsD (w.setCell a u') D x.of (f i)) (by
      intro i hi
      obtain ⟨b, o, r1, r2, r3, r4⟩ := hr i hi
      have e : l.getD i ex0 = l[i] := by simp [List.getD, hi]
      simp only [e] at r4
      obtain ⟨of', hof⟩ := ih i hi
      obtain ⟨s', hs⟩ := ha.str_of hc (r4 2 _ rfl)
      obtain ⟨a1, n1, q1, e1⟩ := (hk i hi).form
      refine ⟨.mk l[i].kind l[i].n s' of', ⟨b, o, r1, r2, fun j => by rw [World.frozen?_setCell]; exact r3 j, range4 (ha.keep hc (r4 0 _ rfl) (by simp) (by simp)) (ha.keep hc (r4 1 _ rfl) (by simp) (by simp)) hs (ha.keep hc (r4 3 _ rfl) (by rw [e1]; simp) (by rw [e1]; simp))⟩, hof⟩)
    refine ⟨l', ?_⟩
    rw [← e]
    refine .mk l' a0 cap f (by rw [e]; exact hl) (fun i hi => ?_) fun i hi => (H i hi).2
    have e' : l'.getD i ex0 = l'[i] := by simp [List.getD, hi]
    simp only [e']
    exact (H i hi).1
theorem StsD.turn {w : World} {D : Nat → Prop} {l : List St} {v : Value} (h : StsD w D l v) {a : Addr} {u u' : Value} (hc : w.cell? a = some u) (ha : Alike u u') : ∃ l', StsD (w.setCell a u') D l' v := by
  induction h with
  | mk l a0 cap f g q hl hr he hb hk ihb ihk =>
    obtain ⟨l', e, H⟩ := list_of (n := l.length) (P := fun i (x : St) => (∃ b o, a0 = some ⟨b, o, none⟩ ∧ D b ∧ (∀ j, (w.setCell a u').frozen? ⟨b, j, none⟩ = false) ∧ (w.setCell a u').rangeAt b (o + i * 11) (x.cells (f i) (g i) (q i))) ∧ ExsD (w.setCell a u') D x.e.of (f i) ∧ StsD (w.setCell a u') D x.body (g i) ∧ StsD (w.setCell a u') D x.els (q i)) (by
      intro i hi
      obtain ⟨b, o, r1, r2, r3, r4⟩ := hr i hi
      have e : l.getD i st0 = l[i] := by simp [List.getD, hi]
      simp only [e] at r4
      obtain ⟨of', hof⟩ := (he i hi).turn hc ha
      obtain ⟨bo', hbo⟩ := ihb i hi
      obtain ⟨el', hel⟩ := ihk i hi
      obtain ⟨s1, hs1⟩ := ha.str_of hc (r4 1 _ rfl)
      obtain ⟨s2, hs2⟩ := ha.str_of hc (r4 2 _ rfl)
      obtain ⟨s6, hs6⟩ := ha.str_of hc (r4 6 _ rfl)
      obtain ⟨x, y, hxy⟩ := ha.com_of hc (r4 10 _ rfl)
      obtain ⟨a1, n1, q1, e1⟩ := (he i hi).form
      obtain ⟨a2, n2, q2, e2⟩ := (hb i hi).form
      obtain ⟨a3, n3, q3, e3⟩ := (hk i hi).form
      refine ⟨.mk l[i].kind s1 s2 l[i].n (.mk l[i].e.kind l[i].e.n s6 of') bo' el' x y, ⟨b, o, r1, r2, fun j => by rw [World.frozen?_setCell]; exact r3 j, ?_⟩, hof, hbo, hel⟩
      exact range11 (ha.keep hc (r4 0 _ rfl) (by simp) (by simp)) hs1 hs2 (ha.keep hc (r4 3 _ rfl) (by simp) (by simp)) (ha.keep hc (r4 4 _ rfl) (by simp) (by simp)) (ha.keep hc (r4 5 _ rfl) (by simp) (by simp)) hs6 (ha.keep hc (r4 7 _ rfl) (by rw [e1]; simp) (by rw [e1]; simp)) (ha.keep hc (r4 8 _ rfl) (by rw [e2]; simp) (by rw [e2]; simp)) (ha.keep hc (r4 9 _ rfl) (by rw [e3]; simp) (by rw [e3]; simp)) hxy)
    refine ⟨l', ?_⟩
    rw [← e]
    refine .mk l' a0 cap f g q (by rw [e]; exact hl) (fun i hi => ?_) (fun i hi => (H i hi).2.1) (fun i hi => (H i hi).2.2.1) fun i hi => (H i hi).2.2.2
    have e' : l'.getD i st0 = l'[i] := by simp [List.getD, hi]
    simp only [e']
    exact (H i hi).1
theorem TsD.turn {w : World} {D : Nat → Prop} {l : List (List St)} {v : Value} (h : TsD w D l v) {a : Addr} {u u' : Value} (hc : w.cell? a = some u) (ha : Alike u u') : ∃ l', l'.length = l.length ∧ TsD (w.setCell a u') D l' v := by
  obtain ⟨a0, cap, f, e0, h1, h3, h4⟩ := h.out
  obtain ⟨l', e, H⟩ := list_of (n := l.length) (P := fun i (x : List St) => StsD (w.setCell a u') D x (f i)) fun i hi => (h4 i hi).turn hc ha
  refine ⟨l', e, a0, cap, f, by rw [e]; exact e0, by rw [e]; exact h1, ?_, H⟩
  rw [e]
  intro i hi
  obtain ⟨b, o, r1, r2, r3, r4⟩ := h3 i hi
  obtain ⟨a1, n1, q1, e1⟩ := (h4 i hi).form
  refine ⟨b, o, r1, r2, fun j => by rw [World.frozen?_setCell]; exact r3 j, fun j v hv => ?_⟩
  have hv' := r4 j v hv
  rcases j with _ | j
  · cases hv
    exact ha.keep hc hv' (by rw [e1]; simp) (by rw [e1]; simp)
  · simp at hv
#print axioms TsD.turn
end Go.Proofs.Ytoaaikbplnpmmaa
