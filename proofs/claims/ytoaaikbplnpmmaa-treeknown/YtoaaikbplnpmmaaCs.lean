/- What copyStmt and copyBlock answer: the same statements, in memory of their own. -/
import Derived.Test.YtoaaikbplnpmmaaCp
namespace Go.Proofs.Ytoaaikbplnpmmaa
open Go.RowKit
attribute [local go_sem] run_store_complex

namespace St
mutual
/-- All that it is of: statements, and what their expressions are of. -/
def wt : St → Nat
  | .mk _ _ _ _ e b l _ _ => 1 + e.size + wts b + wts l
def wts : List St → Nat
  | [] => 0
  | a :: l => wt a + wts l
end
theorem wt_eq (s : St) : wt s = 1 + s.e.size + wts s.body + wts s.els := by cases s; rw [wt]; rfl
theorem wts_len (l : List St) : l.length ≤ wts l := by
  induction l with
  | nil => simp
  | cons a l ih => have := wt_eq a; simp only [List.length_cons, wts]; omega
theorem wt_mem (l : List St) (x : St) (h : x ∈ l) : wt x ≤ wts l := by
  induction l with
  | nil => cases h
  | cons a l ih =>
    rcases List.mem_cons.1 h with rfl | h
    · simp only [wts]; omega
    · have := ih h; simp only [wts]; omega
theorem wts_append (l m : List St) : wts (l ++ m) = wts l + wts m := by
  induction l with
  | nil => simp [wts]
  | cons a l ih => simp only [List.cons_append, wts, ih]; omega
theorem size_wt_of (l : List St) (h : ∀ x ∈ l, size x ≤ wt x) : sizes l ≤ wts l := by
  induction l with
  | nil => simp [sizes]
  | cons a l ih =>
    have h1 := h a (List.mem_cons_self ..)
    have h2 := ih (fun x hx => h x (List.mem_cons_of_mem _ hx))
    simp only [sizes, wts]; omega
theorem size_wt : ∀ s : St, size s ≤ wt s := by
  refine ind fun s h h' => ?_
  have h1 := size_wt_of _ h
  have h2 := size_wt_of _ h'
  rw [size_eq, wt_eq]; omega
theorem sizes_wts (l : List St) : sizes l ≤ wts l := size_wt_of l fun x _ => size_wt x
theorem cells_one (s : St) (a b c : Option Addr) (n m k q r u : Nat) : ∀ x ∈ s.cells (.slice a n q) (.slice b m r) (.slice c k u), x.oneCell' = true := by
  intro x hx
  simp [St.cells] at hx
  rcases hx with rfl | rfl | rfl | rfl | rfl | rfl | rfl | rfl | rfl | rfl | rfl <;> rfl
end St

/-- What copyStmt answers at s. -/
def PCs (s : St) : Prop := ∀ (w : World) (ev bv lv : Value), ExsIn w 0 w.heap.size s.e.of ev → StsIn w 0 w.heap.size s.body bv → StsIn w 0 w.heap.size s.els lv → s.wt ≤ 1073741824 →
  Calls Try.prog 41 #[s.val ev bv lv] w fun r w' => ∃ ev' bv' lv', r = .returned (s.val ev' bv' lv') ∧ ExsIn w' w.heap.size w'.heap.size s.e.of ev' ∧ StsIn w' w.heap.size w'.heap.size s.body bv' ∧ StsIn w' w.heap.size w'.heap.size s.els lv' ∧ Kept w w'
/-- What copyBlock answers at l. -/
def PCb (l : List St) : Prop := ∀ (w : World) (va : Value), StsIn w 0 w.heap.size l va → St.wts l ≤ 1073741824 →
  Calls Try.prog 28 #[va] w fun r w' => ∃ v', r = .returned v' ∧ StsIn w' w.heap.size w'.heap.size l v' ∧ Kept w w'

/-- Where copyBlock stands before round k: row g, items below k with children of their own. -/
structure CpS (w wr : World) (l : List St) (f g h : Nat → Value) (b k : Nat) : Prop where
  bel : Kept w wr
  lt : b < wr.heap.size
  ge : w.heap.size ≤ b
  row : ∃ c, RowNow wr b l.length 11 c ∧ (∀ i (_ : i < l.length), i < k → ∃ u v x, c i = l[i].cells u v x ∧ ExsIn wr (b + 1) wr.heap.size l[i].e.of u ∧ StsIn wr (b + 1) wr.heap.size l[i].body v ∧ StsIn wr (b + 1) wr.heap.size l[i].els x) ∧ (∀ i (_ : i < l.length), k ≤ i → c i = l[i].cells (f i) (g i) (h i))

theorem CpS.next {w wr w1 : World} {l : List St} {f g h : Nat → Value} {b k : Nat} (H : CpS w wr l f g h b k) (hk : k < l.length) (kw : Kept wr w1) (u v x : Value)
    (hu : ExsIn w1 wr.heap.size w1.heap.size l[k].e.of u) (hv : StsIn w1 wr.heap.size w1.heap.size l[k].body v) (hx : StsIn w1 wr.heap.size w1.heap.size l[k].els x) :
    CpS w (w1.setCells b (k * 11) (l[k].cells u v x)) l f g h b (k + 1) := by
  obtain ⟨hb, hlt, hge, c, hr, h1, h2⟩ := H
  have hs := size_setCells b (l[k].cells u v x) (k * 11) w1
  have hz := kw.size
  have st : StaysD (Rng (b + 1) w1.heap.size) w1 (w1.setCells b (k * 11) (l[k].cells u v x)) := fun i hi => heap_setCells b _ _ _ i (by have := hi.1; omega)
  refine ⟨Below.setCells (hb.then kw) hge _ _, by omega, hge, _, (hr.stays (kw.block b hlt)).set k hk (l[k].cells u v x) rfl, fun i hi hik => ?_, fun i hi hik => ?_⟩
  · by_cases e : i = k
    · subst e
      exact ⟨u, v, x, by simp, ((hu.mono (Rng.up (by omega) (Nat.le_refl _))).stays st).mono (Rng.up (Nat.le_refl _) (by omega)), ((hv.mono (Rng.up (by omega) (Nat.le_refl _))).stays st).mono (Rng.up (Nat.le_refl _) (by omega)), ((hx.mono (Rng.up (by omega) (Nat.le_refl _))).stays st).mono (Rng.up (Nat.le_refl _) (by omega))⟩
    · obtain ⟨u', v', x', e1, e2, e3, e4⟩ := h1 i hi (by omega)
      refine ⟨u', v', x', by simp only [if_neg e]; exact e1, ?_, ?_, ?_⟩
      · exact (((e2.stays (kw.stays (Nat.le_refl _))).mono (Rng.up (Nat.le_refl _) hz)).stays st).mono (Rng.up (Nat.le_refl _) (by omega))
      · exact (((e3.stays (kw.stays (Nat.le_refl _))).mono (Rng.up (Nat.le_refl _) hz)).stays st).mono (Rng.up (Nat.le_refl _) (by omega))
      · exact (((e4.stays (kw.stays (Nat.le_refl _))).mono (Rng.up (Nat.le_refl _) hz)).stays st).mono (Rng.up (Nat.le_refl _) (by omega))
  · simp only [if_neg (show ¬ i = k by omega)]
    exact h2 i hi (by omega)

theorem CpS.done {w wr : World} {l : List St} {f g h : Nat → Value} {b : Nat} (H : CpS w wr l f g h b l.length) (hl : l.length ≤ 9223372036854775807) : StsIn wr w.heap.size wr.heap.size l (.slice (some ⟨b, 0, none⟩) l.length l.length) := by
  obtain ⟨hb, hlt, hge, c, hr, h1, h2⟩ := H
  have hc : ∀ i, i < l.length → ∃ q : Value × Value × Value, ∀ _ : i < l.length, c i = l[i].cells q.1 q.2.1 q.2.2 ∧ ExsIn wr (b + 1) wr.heap.size l[i].e.of q.1 ∧ StsIn wr (b + 1) wr.heap.size l[i].body q.2.1 ∧ StsIn wr (b + 1) wr.heap.size l[i].els q.2.2 := fun i hi => by
    obtain ⟨u, v, x, hv⟩ := h1 i hi hi
    exact ⟨(u, v, x), fun _ => hv⟩
  have hc' : ∃ q : Nat → Value × Value × Value, ∀ i (_ : i < l.length), c i = l[i].cells (q i).1 (q i).2.1 (q i).2.2 ∧ ExsIn wr (b + 1) wr.heap.size l[i].e.of (q i).1 ∧ StsIn wr (b + 1) wr.heap.size l[i].body (q i).2.1 ∧ StsIn wr (b + 1) wr.heap.size l[i].els (q i).2.2 := by
    refine ⟨fun i => if h : i < l.length then Classical.choose (hc i h) else (undef, undef, undef), fun i h => ?_⟩
    simp only [dif_pos h]
    exact Classical.choose_spec (hc i h) h
  obtain ⟨q, hq⟩ := hc'
  refine .mk l _ _ (fun i => (q i).1) (fun i => (q i).2.1) (fun i => (q i).2.2) ⟨Nat.le_refl _, by unfold maxLen; omega, fun h => by cases h⟩ ?_ (fun i h => (hq i h).2.1.mono (Rng.up (by omega) (Nat.le_refl _))) (fun i h => (hq i h).2.2.1.mono (Rng.up (by omega) (Nat.le_refl _))) fun i h => (hq i h).2.2.2.mono (Rng.up (by omega) (Nat.le_refl _))
  intro i hi
  obtain ⟨b', o, e, h3, h4, h5⟩ := (hr.rowAt (D := Rng w.heap.size wr.heap.size) ⟨hge, hlt⟩) i hi
  refine ⟨b', o, e, h3, h4, ?_⟩
  have : l.getD i st0 = l[i] := by simp [List.getD, hi]
  simp only [this]
  rw [← (hq i hi).1]
  exact h5

set_option maxRecDepth 100000 in
set_option maxHeartbeats 2000000 in
theorem copyBlock_of (l : List St) (H : ∀ y ∈ l, PCs y) : PCb l := by
  intro w va ha hsz
  have HH : Hid (∀ z ∈ l, PCs z) := H
  have hle := St.wts_len l
  have HSZ : Hid (∀ k (h : k < l.length), l[k].wt ≤ 1073741824) := fun k h => by have := St.wt_mem l l[k] (List.getElem_mem h); omega
  have hn : l.length ≤ 1073741824 := by omega
  clear hle hsz
  cases ha with
  | mk _ a cap f g h hl hc he hb hk =>
  have HK : Hid (∀ i (_ : i < l.length), ExsIn w 0 w.heap.size l[i].e.of (f i) ∧ StsIn w 0 w.heap.size l[i].body (g i) ∧ StsIn w 0 w.heap.size l[i].els (h i)) := fun i hi => ⟨he i hi, hb i hi, hk i hi⟩
  have hone : ∀ i, i < l.length → ∀ u ∈ (l.getD i st0).cells (f i) (g i) (h i), u.oneCell' = true := by
    intro i hi u hu
    obtain ⟨a1, n1, q1, e1⟩ := (he i hi).form
    obtain ⟨a2, n2, q2, e2⟩ := (hb i hi).form
    obtain ⟨a3, n3, q3, e3⟩ := (hk i hi).form
    rw [e1, e2, e3] at hu
    exact St.cells_one _ _ _ _ _ _ _ _ _ _ u hu
  have HF : Hid (∀ W, Kept w W → Calls Try.prog 43 #[.slice a l.length cap] W fun r w' => Fresh W a l.length 11 (fun i => (l.getD i st0).cells (f i) (g i) (h i)) r w') :=
    fun W hW => freshSt W (Rng 0 w.heap.size) a l.length cap _ hl (hc.stays (hW.stays (Nat.le_refl _))) (fun i hi => rfl) hone (fun k hk => Nat.lt_of_lt_of_le hk.2 hW.size) hn
  clear H hl hc he hb hk hone
  go_enter Try.func28, Try.ntmps28
  go_wp2_with fail
  refine (HF.out _ (Kept.refl _)).mono ?_
  rintro r w1 ⟨kw, hr⟩
  have hr' : ∃ a', r = .returned (.slice a' l.length l.length) ∧ (0 < l.length → ∃ b, a' = some ⟨b, 0, none⟩ ∧ CpS w w1 l f g h b 0) := by
    rcases hr with ⟨_, h0, rfl⟩ | ⟨b, hg1, hg2, rfl, hrow⟩
    · exact ⟨none, by rw [h0], fun h => by omega⟩
    · refine ⟨_, rfl, fun _ => ⟨b, rfl, kw, hg2, hg1, _, hrow, fun i hi h => by omega, fun i hi _ => ?_⟩⟩
      have : l.getD i st0 = l[i] := by simp [List.getD, hi]
      simp only [this]
  obtain ⟨a', rfl, hrow⟩ := hr'
  have HR : Hid _ := hrow
  have KW1 : Hid (Kept w w1) := kw
  clear hr kw hrow
  go_wp2_with fail
  go_loopw [10] (fun i wr => ∃ k : Nat, i = .int .i64 (k : Int) ∧ k ≤ l.length ∧ Hid (Kept w wr ∧ (0 < l.length → ∃ b, a' = some ⟨b, 0, none⟩ ∧ CpS w wr l f g h b k))) (fun i _ => l.length - (intOf i).toNat)
  case atStart => exact ⟨0, rfl, Nat.zero_le _, KW1.out, HR.out⟩
  case round =>
    obtain ⟨k, rfl, hk, HB⟩ := hrel
    by_cases hlt : k < l.length
    · have hki : (k : Int) < (l.length : Int) := by omega
      obtain ⟨b, rfl, hcp⟩ := HB.out.2 (by omega)
      have HCP : Hid (CpS w wr l f g h b k) := hcp
      obtain ⟨-, hglt, hgge, c, hrow, -, hold⟩ := hcp
      have hck := hold k hlt (Nat.le_refl _)
      obtain ⟨HX1, HX2, HX3⟩ := HK.out k hlt
      obtain ⟨a1, n1, q1, e1⟩ := HX1.form
      obtain ⟨a2, n2, q2, e2⟩ := HX2.form
      obtain ⟨a3, n3, q3, e3⟩ := HX3.form
      rw [e1, e2, e3] at hck
      rw [e1] at HX1
      rw [e2] at HX2
      rw [e3] at HX3
      have hrg := hrow.cells k hlt
      rw [hck] at hrg
      have hfz : ∀ j, wr.frozen? ⟨b, j, none⟩ = false := hrow.fz
      have KWr : Hid (Kept w wr) := HB.out.1
      have c0 : wr.cell? ⟨b, k * 11, none⟩ = some (.int .i64 l[k].kind) := hrg 0 _ rfl
      have c1 : wr.cell? ⟨b, k * 11 + 1, none⟩ = some (.string l[k].name) := hrg 1 _ rfl
      have c2 : wr.cell? ⟨b, k * 11 + 2, none⟩ = some (.string l[k].other) := hrg 2 _ rfl
      have c3 : wr.cell? ⟨b, k * 11 + 3, none⟩ = some (.int .i64 l[k].n) := hrg 3 _ rfl
      have c4 : wr.cell? ⟨b, k * 11 + 4, none⟩ = some (.int .i64 l[k].e.kind) := hrg 4 _ rfl
      have c5 : wr.cell? ⟨b, k * 11 + 5, none⟩ = some (.int .i64 l[k].e.n) := hrg 5 _ rfl
      have c6 : wr.cell? ⟨b, k * 11 + 6, none⟩ = some (.string l[k].e.name) := hrg 6 _ rfl
      have c7 : wr.cell? ⟨b, k * 11 + 7, none⟩ = some (.slice a1 n1 q1) := hrg 7 _ rfl
      have c8 : wr.cell? ⟨b, k * 11 + 8, none⟩ = some (.slice a2 n2 q2) := hrg 8 _ rfl
      have c9 : wr.cell? ⟨b, k * 11 + 9, none⟩ = some (.slice a3 n3 q3) := hrg 9 _ rfl
      have c10 : wr.cell? ⟨b, k * 11 + 10, none⟩ = some (.complex .f64 l[k].re l[k].im) := hrg 10 _ rfl
      have hPk : Hid (∀ W, Kept wr W → Calls Try.prog 41 #[l[k].val (.slice a1 n1 q1) (.slice a2 n2 q2) (.slice a3 n3 q3)] W fun r w' => ∃ a4 n4 q4 a5 n5 q5 a6 n6 q6, r = .returned (l[k].val (.slice a4 n4 q4) (.slice a5 n5 q5) (.slice a6 n6 q6)) ∧
          Hid (ExsIn w' wr.heap.size w'.heap.size l[k].e.of (.slice a4 n4 q4) ∧ StsIn w' wr.heap.size w'.heap.size l[k].body (.slice a5 n5 q5) ∧ StsIn w' wr.heap.size w'.heap.size l[k].els (.slice a6 n6 q6) ∧ Kept wr w') ∧
          w'.cell? ⟨b, k * 11, none⟩ = some (.int .i64 l[k].kind) ∧ w'.cell? ⟨b, k * 11 + 1, none⟩ = some (.string l[k].name) ∧ w'.cell? ⟨b, k * 11 + 2, none⟩ = some (.string l[k].other) ∧ w'.cell? ⟨b, k * 11 + 3, none⟩ = some (.int .i64 l[k].n) ∧ w'.cell? ⟨b, k * 11 + 4, none⟩ = some (.int .i64 l[k].e.kind) ∧ w'.cell? ⟨b, k * 11 + 5, none⟩ = some (.int .i64 l[k].e.n) ∧ w'.cell? ⟨b, k * 11 + 6, none⟩ = some (.string l[k].e.name) ∧ w'.cell? ⟨b, k * 11 + 7, none⟩ = some (.slice a1 n1 q1) ∧ w'.cell? ⟨b, k * 11 + 8, none⟩ = some (.slice a2 n2 q2) ∧ w'.cell? ⟨b, k * 11 + 9, none⟩ = some (.slice a3 n3 q3) ∧ w'.cell? ⟨b, k * 11 + 10, none⟩ = some (.complex .f64 l[k].re l[k].im) ∧ ∀ j, w'.frozen? ⟨b, j, none⟩ = false) := by
        intro W hW
        refine (HH.out _ (List.getElem_mem hlt) W _ _ _ (HX1.up (Nat.le_refl _) (KWr.out.then hW)) (HX2.up (Nat.le_refl _) (KWr.out.then hW)) (HX3.up (Nat.le_refl _) (KWr.out.then hW)) (HSZ.out k hlt)).mono ?_
        rintro r w3 ⟨v1, v2, v3, rfl, hv1, hv2, hv3, kw3⟩
        obtain ⟨a4, n4, q4, rfl⟩ := hv1.form
        obtain ⟨a5, n5, q5, rfl⟩ := hv2.form
        obtain ⟨a6, n6, q6, rfl⟩ := hv3.form
        have KK : Kept wr w3 := hW.then kw3
        exact ⟨a4, n4, q4, a5, n5, q5, a6, n6, q6, rfl, ⟨hv1.mono (Rng.up hW.size (Nat.le_refl _)), hv2.mono (Rng.up hW.size (Nat.le_refl _)), hv3.mono (Rng.up hW.size (Nat.le_refl _)), KK⟩, KK.cellS c0, KK.cellS c1, KK.cellS c2, KK.cellS c3, KK.cellS c4, KK.cellS c5, KK.cellS c6, KK.cellS c7, KK.cellS c8, KK.cellS c9, KK.cellS c10, fun j => (KK.frozen hglt).trans (hfz j)⟩
      unfold St.val at hPk
      clear hck e1 e2 e3 hrg hrow hold HX1 HX2 HX3
      go_wp2_with fail
      refine (hPk.out _ ((Kept.refl wr).al _)).mono ?_
      rintro r w3 ⟨a4, n4, q4, a5, n5, q5, a6, n6, q6, rfl, HV, z0, z1, z2, z3, z4, z5, z6, z7, z8, z9, z10, zf⟩
      go_wp2_with fail
      go_roundw
      case rel =>
        have NX := HCP.out.next hlt HV.out.2.2.2 _ _ _ HV.out.1 HV.out.2.1 HV.out.2.2.1
        exact ⟨k + 1, by go_num, by omega, NX.bel, fun _ => ⟨b, rfl, NX⟩⟩
      case measure => simp [intOf]; omega
    · have hki : ¬ (k : Int) < (l.length : Int) := by omega
      obtain rfl : k = l.length := by omega
      have HE : Hid (StsIn wr w.heap.size wr.heap.size l (.slice a' l.length l.length)) := by
        by_cases h0 : 0 < l.length
        · obtain ⟨b, rfl, hcp⟩ := HB.out.2 h0
          exact hcp.done (by omega)
        · refine .mk l _ _ (fun _ => undef) (fun _ => undef) (fun _ => undef) ⟨Nat.le_refl _, by unfold maxLen; omega, fun _ => by omega⟩ (fun i hi => by omega) (fun i hi => by omega) (fun i hi => by omega) fun i hi => by omega
      go_wp2_with fail
      go_ret
      exact ⟨_, rfl, HE.out, HB.out.1⟩
#print axioms copyBlock_of
end Go.Proofs.Ytoaaikbplnpmmaa
