/- Trees that part in places alone, or in one name; the closed sentence's lists. -/
import Derived.Test.YtoaaikbplnpmmaaTi
namespace Go.Proofs.Ytoaaikbplnpmmaa
open Go.RowKit

/-- What is no place is as it was. -/
def ButPlaces (w w' : World) : Prop := ∀ p u, w.cell? p = some u → (∀ x y, u ≠ .complex .f64 x y) → w'.cell? p = some u
theorem ButPlaces.of {w : World} {a : Addr} {x y : Nat} (hc : w.cell? a = some (.complex .f64 x y)) (v : Value) : ButPlaces w (w.setCell a v) := fun p u hu hn => by
  rw [World.cell?_setCell_other _ _ _ _ (by
    intro e
    have e' : p = a := by first | exact e | exact e.symm
    rw [e', hc] at hu
    exact hn _ _ (Option.some.inj hu).symm)]
  exact hu
theorem Ex.sames_of_all (l m : List Ex) (e : l.length = m.length) (H : ∀ i (h : i < l.length) (h' : i < m.length), Ex.same l[i] m[i] = true) : Ex.sames l m = true := by
  induction l generalizing m with
  | nil => cases m with
    | nil => rw [Ex.sames]
    | cons b m => simp at e
  | cons a l ih => cases m with
    | nil => simp at e
    | cons b m =>
      have h0 := H 0 (by simp) (by simp)
      rw [Ex.sames, ih m (by simpa using e) fun i h h' => H (i + 1) (by simpa using h) (by simpa using h')]
      simpa using h0
theorem St.sames_of_all (l m : List St) (e : l.length = m.length) (H : ∀ i (h : i < l.length) (h' : i < m.length), St.same l[i] m[i] = true) : St.sames l m = true := by
  induction l generalizing m with
  | nil => cases m with
    | nil => rw [St.sames]
    | cons b m => simp at e
  | cons a l ih => cases m with
    | nil => simp at e
    | cons b m =>
      have h0 := H 0 (by simp) (by simp)
      rw [St.sames, ih m (by simpa using e) fun i h h' => H (i + 1) (by simpa using h) (by simpa using h')]
      simpa using h0
theorem sameTs_of_all (l m : List (List St)) (e : l.length = m.length) (H : ∀ i (h : i < l.length) (h' : i < m.length), St.sames l[i] m[i] = true) : sameTs l m = true := by
  induction l generalizing m with
  | nil => cases m with
    | nil => rw [sameTs]
    | cons b m => simp at e
  | cons a l ih => cases m with
    | nil => simp at e
    | cons b m =>
      have h0 := H 0 (by simp) (by simp)
      rw [sameTs, ih m (by simpa using e) fun i h h' => H (i + 1) (by simpa using h) (by simpa using h')]
      simpa using h0
theorem ExsD.like {w w' : World} {D D' : Nat → Prop} (hB : ButPlaces w w') {l : List Ex} {v : Value} (h : ExsD w D l v) : ∀ l', ExsD w' D' l' v → Ex.sames l l' = true := by
  induction h with
  | mk l a cap f hl hr hk ih =>
    intro l' h'
    have hlen : l.length = l'.length := by
      obtain ⟨a', cap', e, -⟩ := h'.open
      injection e
    refine Ex.sames_of_all l l' hlen fun i hi hi' => ?_
    obtain ⟨b, o, r1, r2, r3, r4⟩ := hr i hi
    have e : l.getD i ex0 = l[i] := by simp [List.getD, hi]
    simp only [e] at r4
    obtain ⟨b', o', a1, n1, q1, s1, -, -, c0, c1, c2, c3, k⟩ := h'.itemD i hi'
    obtain ⟨a2, n2, q2, e2⟩ := (hk i hi).form
    rw [r1] at s1
    cases s1
    have d0 := hB _ _ (r4 0 _ rfl) (by simp)
    have d1 := hB _ _ (r4 1 _ rfl) (by simp)
    have d2 := hB _ _ (r4 2 _ rfl) (by simp)
    have d3 := hB _ _ (r4 3 _ rfl) (by rw [e2]; simp)
    have x0 := Option.some.inj (d0.symm.trans c0)
    have x1 := Option.some.inj (d1.symm.trans c1)
    have x2 := Option.some.inj (d2.symm.trans c2)
    have x3 := Option.some.inj (d3.symm.trans c3)
    rw [← x3] at k
    have y0 : l[i].kind = l'[i].kind := by injection x0
    have y1 : l[i].n = l'[i].n := by injection x1
    have y2 : l[i].name = l'[i].name := by injection x2
    rw [Ex.same_eq, y0, y1, y2, ih i hi _ k]
    simp
theorem StsD.like {w w' : World} {D D' : Nat → Prop} (hB : ButPlaces w w') {l : List St} {v : Value} (h : StsD w D l v) : ∀ l', StsD w' D' l' v → St.sames l l' = true := by
  induction h with
  | mk l a cap f g q hl hr he hb hk ihb ihk =>
    intro l' h'
    have hlen : l.length = l'.length := by
      obtain ⟨a', cap', e, -⟩ := h'.open
      injection e
    refine St.sames_of_all l l' hlen fun i hi hi' => ?_
    obtain ⟨b, o, r1, r2, r3, r4⟩ := hr i hi
    have e : l.getD i st0 = l[i] := by simp [List.getD, hi]
    simp only [e] at r4
    obtain ⟨b', o', a1, n1, q1, a2, n2, q2, a3, n3, q3, s1, -, -, c0, c1, c2, c3, c4, c5, c6, c7, c8, c9, c10, k1, k2, k3⟩ := h'.itemD i hi'
    obtain ⟨a1', n1', q1', e1⟩ := (he i hi).form
    obtain ⟨a2', n2', q2', e2⟩ := (hb i hi).form
    obtain ⟨a3', n3', q3', e3⟩ := (hk i hi).form
    rw [r1] at s1
    cases s1
    have x0 := Option.some.inj ((hB _ _ (r4 0 _ rfl) (by simp)).symm.trans c0)
    have x1 := Option.some.inj ((hB _ _ (r4 1 _ rfl) (by simp)).symm.trans c1)
    have x2 := Option.some.inj ((hB _ _ (r4 2 _ rfl) (by simp)).symm.trans c2)
    have x3 := Option.some.inj ((hB _ _ (r4 3 _ rfl) (by simp)).symm.trans c3)
    have x4 := Option.some.inj ((hB _ _ (r4 4 _ rfl) (by simp)).symm.trans c4)
    have x5 := Option.some.inj ((hB _ _ (r4 5 _ rfl) (by simp)).symm.trans c5)
    have x6 := Option.some.inj ((hB _ _ (r4 6 _ rfl) (by simp)).symm.trans c6)
    have x7 := Option.some.inj ((hB _ _ (r4 7 _ rfl) (by rw [e1]; simp)).symm.trans c7)
    have x8 := Option.some.inj ((hB _ _ (r4 8 _ rfl) (by rw [e2]; simp)).symm.trans c8)
    have x9 := Option.some.inj ((hB _ _ (r4 9 _ rfl) (by rw [e3]; simp)).symm.trans c9)
    rw [← x7] at k1
    rw [← x8] at k2
    rw [← x9] at k3
    have y0 : l[i].kind = l'[i].kind := by injection x0
    have y1 : l[i].name = l'[i].name := by injection x1
    have y2 : l[i].other = l'[i].other := by injection x2
    have y3 : l[i].n = l'[i].n := by injection x3
    have y4 : l[i].e.kind = l'[i].e.kind := by injection x4
    have y5 : l[i].e.n = l'[i].e.n := by injection x5
    have y6 : l[i].e.name = l'[i].e.name := by injection x6
    rw [St.same_eq, Ex.same_eq, y0, y1, y2, y3, y4, y5, y6, (he i hi).like hB _ k1, ihb i hi _ k2, ihk i hi _ k3]
    simp
theorem TsD.like {w w' : World} {D D' : Nat → Prop} (hB : ButPlaces w w') {l l' : List (List St)} {v : Value} (h : TsD w D l v) (h' : TsD w' D' l' v) : sameTs l l' = true := by
  obtain ⟨a, cap, rfl, -⟩ := h.open
  have hlen : l.length = l'.length := by
    obtain ⟨a', cap', e, -⟩ := h'.open
    injection e
  refine sameTs_of_all l l' hlen fun i hi hi' => ?_
  obtain ⟨b, o, a1, n1, q1, r1, -, -, r2, r3⟩ := h.itemD i hi
  obtain ⟨b', o', a1', n1', q1', s1, -, -, s2, s3⟩ := h'.itemD i hi'
  rw [r1] at s1
  cases s1
  have x := Option.some.inj ((hB _ _ r2 (by simp)).symm.trans s2)
  rw [← x] at s3
  exact r3.like hB _ s3

/-! ### A name that parts them -/
theorem St.sames_at (l m : List St) (h : St.sames l m = true) : ∀ i (h1 : i < l.length) (h2 : i < m.length), St.same l[i] m[i] = true := by
  induction l generalizing m with
  | nil => intro i h1; simp at h1
  | cons a l ih => cases m with
    | nil => intro i h1 h2; simp at h2
    | cons b m =>
      rw [St.sames, Bool.and_eq_true] at h
      intro i h1 h2
      cases i with
      | zero => exact h.1
      | succ i => exact ih m h.2 i (by simpa using h1) (by simpa using h2)
theorem sameTs_at (l m : List (List St)) (h : sameTs l m = true) : ∀ i (h1 : i < l.length) (h2 : i < m.length), St.sames l[i] m[i] = true := by
  induction l generalizing m with
  | nil => intro i h1; simp at h1
  | cons a l ih => cases m with
    | nil => intro i h1 h2; simp at h2
    | cons b m =>
      rw [sameTs, Bool.and_eq_true] at h
      intro i h1 h2
      cases i with
      | zero => exact h.1
      | succ i => exact ih m h.2 i (by simpa using h1) (by simpa using h2)
theorem tK_other (t : List (List St)) (h0 : 0 < t.length) (h1 : 0 < t[0].length) (h2 : 0 < t[0][0].body.length) (h : t[0][0].body[0].e.name = ⟨#[122]⟩) : sameTs tK t = false := by
  cases hs : sameTs tK t with
  | false => rfl
  | true =>
    have a0 := sameTs_at tK t hs 0 (by simp [tK]) h0
    have a1 := St.sames_at _ _ a0 0 (by simp [tK]) h1
    rw [St.same_eq] at a1
    simp only [Bool.and_eq_true] at a1
    have a2 := St.sames_at _ _ a1.2.2.2.2.2.1 0 (by simp [tK, sIf, St.body]) h2
    rw [St.same_eq, Ex.same_eq, h] at a2
    simp only [Bool.and_eq_true] at a2
    have a3 := a2.2.2.2.2.1.2.2.1
    have a4 : ((ByteArray.mk #[113]).toList == (ByteArray.mk #[122]).toList) = false := by simp [ByteArray.toList, ByteArray.toList.loop, ByteArray.size, ByteArray.get!]
    exact absurd (a4.symm.trans a3) (by simp)

/-! ### The closed sentence's lists -/
theorem flat_tK : flatTs tK = [sIf, sPrint, sLock, sRecv, sSend] := by
  simp [tK, flatTs, St.flats, St.flat, sIf, sPrint, sLock, sRecv, sSend]
theorem thrs_tK : thrs 0 tK = [.int .i64 0, .int .i64 0, .int .i64 0, .int .i64 0, .int .i64 1] := by
  simp [tK, thrs, St.sizes, St.size, sIf, sPrint, sLock, sRecv, sSend, List.replicate]
theorem wts_tK : ∀ x ∈ tK, St.wts x ≤ 1073741824 := by
  intro x hx
  simp [tK] at hx
  rcases hx with rfl | rfl <;> simp [St.wts, St.wt, sIf, sPrint, sLock, sRecv, sSend, exN, Ex.size, Ex.sizes]
theorem DsD.nil (w : World) (D : Nat → Prop) : DsD w D [] (.slice none 0 0) := ⟨none, 0, rfl, ⟨Nat.le_refl _, by unfold maxLen; omega, fun _ => rfl⟩, fun i hi => by simp at hi⟩
theorem touch_if : strs sIf.touches = [.string ⟨#[97]⟩] := by simp [strs, St.touches, sIf, exN, St.kind, St.e, Ex.names, Ex.namesL]
theorem touch_lock : strs sLock.touches = [] := by simp [strs, St.touches, sLock, St.kind]
theorem touch_recv : strs sRecv.touches = [.string ⟨#[118]⟩] := by simp [strs, St.touches, sRecv, St.kind, St.other]
theorem touch_send : strs sSend.touches = [.string ⟨#[119]⟩] := by simp [strs, St.touches, sSend, exN, St.kind, St.e, Ex.names, Ex.namesL]
theorem TsD.nil (w : World) (D : Nat → Prop) : TsD w D [] (.slice none 0 0) := ⟨none, 0, fun _ => undef, rfl, ⟨Nat.le_refl _, by unfold maxLen; omega, fun _ => rfl⟩, fun i hi => by simp at hi, fun i hi => by simp at hi⟩
/-- The way from the threads' row to the name within the if. -/
theorem path_tK {w : World} {D : Nat → Prop} {a : Option Addr} {n q : Nat} (h : TsD w D tK (.slice a n q)) : ∃ b6 o6 b7 o7 q7 b9 o9 q9 : Nat, a = some ⟨b6, o6, none⟩ ∧ n = 2 ∧ D b6 ∧ D b7 ∧ D b9 ∧ (∀ j, w.frozen? ⟨b7, j, none⟩ = false) ∧ (∀ j, w.frozen? ⟨b9, j, none⟩ = false) ∧
    w.cell? ⟨b6, o6, none⟩ = some (.slice (some ⟨b7, o7, none⟩) 2 q7) ∧ w.cell? ⟨b7, o7 + 8, none⟩ = some (.slice (some ⟨b9, o9, none⟩) 1 q9) ∧ w.cell? ⟨b7, o7 + 10, none⟩ = some (.complex .f64 0 0) ∧ w.cell? ⟨b9, o9 + 6, none⟩ = some (.string ⟨#[113]⟩) := by
  have hn : n = 2 := by
    obtain ⟨_, _, e, -⟩ := h.open
    injection e
  subst hn
  obtain ⟨b6, o6, a1, n1, q1, rfl, d6, -, c6, k6⟩ := h.itemD 0 (by simp [tK])
  have hn1 : n1 = 2 := by
    obtain ⟨_, _, e, -⟩ := k6.open
    injection e
  subst hn1
  obtain ⟨b7, o7, _, _, _, a2, n2, q2, _, _, _, rfl, d7, f7, -, -, -, -, -, -, -, -, c8, -, c10, -, k8, -⟩ := k6.itemD 0 (by simp [tK])
  have hn2 : n2 = 1 := by
    obtain ⟨_, _, e, -⟩ := k8.open
    injection e
  subst hn2
  obtain ⟨b9, o9, _, _, _, _, _, _, _, _, _, rfl, d9, f9, -, -, -, -, -, -, c9, -⟩ := k8.itemD 0 (by simp [tK, sIf, St.body])
  exact ⟨b6, o6, b7, o7, q1, b9, o9, q2, rfl, rfl, d6, d7, d9, f7, f9, by simpa using c6, by simpa using c8, by rw [Nat.zero_mul, Nat.add_zero] at c10; exact c10, by rw [Nat.zero_mul, Nat.add_zero] at c9; exact c9⟩
/-- Where another name stands at that way's end the trees part. -/
theorem other_tK {w : World} {D : Nat → Prop} {t : List (List St)} {b6 o6 q6 b7 o7 q7 b9 o9 q9 : Nat} (h : TsD w D t (.slice (some ⟨b6, o6, none⟩) 2 q6)) (s6 : w.cell? ⟨b6, o6, none⟩ = some (.slice (some ⟨b7, o7, none⟩) 2 q7)) (s8 : w.cell? ⟨b7, o7 + 8, none⟩ = some (.slice (some ⟨b9, o9, none⟩) 1 q9)) (sz : w.cell? ⟨b9, o9 + 6, none⟩ = some (.string ⟨#[122]⟩)) : sameTs tK t = false := by
  have h0 : 0 < t.length := by
    obtain ⟨_, _, e, -⟩ := h.open
    injection e with _ e2
    omega
  obtain ⟨_, _, a1, n1, q1, e6, -, -, c6, k6⟩ := h.itemD 0 h0
  cases e6
  rw [Nat.add_zero, s6] at c6
  cases c6
  have h1 : 0 < t[0].length := by
    obtain ⟨_, _, e, -⟩ := k6.open
    injection e with _ e2
    omega
  obtain ⟨_, _, _, _, _, a2, n2, q2, _, _, _, e7, -, -, -, -, -, -, -, -, -, -, c8, -, -, -, k8, -⟩ := k6.itemD 0 h1
  cases e7
  rw [Nat.zero_mul, Nat.add_zero, s8] at c8
  cases c8
  have h2 : 0 < t[0][0].body.length := by
    obtain ⟨_, _, e, -⟩ := k8.open
    injection e with _ e2
    omega
  obtain ⟨_, _, _, _, _, _, _, _, _, _, _, e9, -, -, -, -, -, -, -, -, c9, -⟩ := k8.itemD 0 h2
  cases e9
  rw [Nat.zero_mul, Nat.add_zero, sz] at c9
  have e := Option.some.inj c9
  injection e with e
  exact tK_other t h0 h1 h2 e.symm
#print axioms other_tK
#print axioms tK_other
#print axioms TsD.like
end Go.Proofs.Ytoaaikbplnpmmaa
