/- What copyExpr answers: the same expression, in memory of its own. -/
import Derived.Test.YtoaaikbplnpmmaaFs
import Derived.Test.YtoaaikbplnpmmaaW1
import Derived.Deep.RegionWith
namespace Go.Proofs.Ytoaaikbplnpmmaa
open Go.RowKit
attribute [local go_sem] run_store_complex

/-- What copyExpr answers at e. -/
def PCp (e : Ex) : Prop := ∀ (w : World) (va : Value), ExsIn w 0 w.heap.size e.of va → e.size ≤ 1073741824 →
  Calls Try.prog 48 #[e.val va] w fun r w' => ∃ v', r = .returned (e.val v') ∧ ExsIn w' w.heap.size w'.heap.size e.of v' ∧ Kept w w'

/-- Where copyExpr stands before round k: row g, items below k with children of their own. -/
structure CpE (w W2 wr : World) (l : List Ex) (f : Nat → Value) (g k : Nat) : Prop where
  bel : Below (w.heap.size + 2) W2 wr
  lt : g < wr.heap.size
  ge : w.heap.size + 2 ≤ g
  row : ∃ c, RowNow wr g l.length 4 c ∧ (∀ i (h : i < l.length), i < k → ∃ v, c i = l[i].cells v ∧ ExsIn wr (g + 1) wr.heap.size l[i].of v) ∧ (∀ i (h : i < l.length), k ≤ i → c i = l[i].cells (f i))

theorem rng_kept {w w' : World} {lo lo' : Nat} (h : Kept w w') (hl : lo' ≤ lo) : ∀ k, Rng lo w.heap.size k → Rng lo' w'.heap.size k := Rng.up hl h.size

theorem Ex.cells_one (e : Ex) (a : Option Addr) (n q : Nat) : ∀ u ∈ e.cells (.slice a n q), u.oneCell' = true := by
  intro u hu
  simp [Ex.cells] at hu
  rcases hu with rfl | rfl | rfl | rfl <;> rfl

theorem CpE.next {w W2 wr w1 : World} {l : List Ex} {f : Nat → Value} {g k : Nat} (h : CpE w W2 wr l f g k) (hk : k < l.length) (kw : Kept wr w1) (v' : Value) (hv : ExsIn w1 wr.heap.size w1.heap.size l[k].of v') :
    CpE w W2 (w1.setCells g (k * 4) (l[k].cells v')) l f g (k + 1) := by
  obtain ⟨hb, hlt, hge, c, hr, h1, h2⟩ := h
  have hs := size_setCells g (l[k].cells v') (k * 4) w1
  have hz := kw.size
  have st : StaysD (Rng (g + 1) w1.heap.size) w1 (w1.setCells g (k * 4) (l[k].cells v')) := fun i hi => heap_setCells g _ _ _ i (by have := hi.1; omega)
  refine ⟨Below.setCells (hb.trans (kw.mono (by have := hb.size; omega))) (by omega) _ _, by omega, hge, _, (hr.stays (kw.block g hlt)).set k hk (l[k].cells v') rfl, fun i hi hik => ?_, fun i hi hik => ?_⟩
  · by_cases e : i = k
    · subst e
      exact ⟨v', by simp, ((hv.mono (Rng.up (by omega) (Nat.le_refl _))).stays st).mono (Rng.up (Nat.le_refl _) (by omega))⟩
    · obtain ⟨v, e1, e2⟩ := h1 i hi (by omega)
      refine ⟨v, by simp only [if_neg e]; exact e1, ?_⟩
      exact (((e2.stays (kw.stays (Nat.le_refl _))).mono (Rng.up (Nat.le_refl _) hz)).stays st).mono (Rng.up (Nat.le_refl _) (by omega))
  · simp only [if_neg (show ¬ i = k by omega)]
    exact h2 i hi (by omega)

theorem CpE.done {w W2 wr : World} {l : List Ex} {f : Nat → Value} {g : Nat} (h : CpE w W2 wr l f g l.length) (hl : l.length ≤ 9223372036854775807) : ExsIn wr (w.heap.size + 2) wr.heap.size l (.slice (some ⟨g, 0, none⟩) l.length l.length) := by
  obtain ⟨hb, hlt, hge, c, hr, h1, h2⟩ := h
  have hc : ∀ i, i < l.length → ∃ v, ∀ h : i < l.length, c i = l[i].cells v ∧ ExsIn wr (g + 1) wr.heap.size l[i].of v := fun i hi => by
    obtain ⟨v, hv⟩ := h1 i hi hi
    exact ⟨v, fun _ => hv⟩
  have hc' : ∃ q : Nat → Value, ∀ i (h : i < l.length), c i = l[i].cells (q i) ∧ ExsIn wr (g + 1) wr.heap.size l[i].of (q i) := by
    refine ⟨fun i => if h : i < l.length then Classical.choose (hc i h) else undef, fun i h => ?_⟩
    simp only [dif_pos h]
    exact Classical.choose_spec (hc i h) h
  obtain ⟨q, hq⟩ := hc'
  refine .mk l _ _ q ⟨Nat.le_refl _, by unfold maxLen; omega, fun h => by cases h⟩ ?_ fun i h => (hq i h).2.mono (Rng.up (by omega) (Nat.le_refl _))
  intro i hi
  obtain ⟨b, o, e, h3, h4, h5⟩ := (hr.rowAt (D := Rng (w.heap.size + 2) wr.heap.size) ⟨by omega, hlt⟩) i hi
  refine ⟨b, o, e, h3, h4, ?_⟩
  have : l.getD i ex0 = l[i] := by simp [List.getD, hi]
  simp only [this]
  rw [← (hq i hi).1]
  exact h5

set_option maxRecDepth 100000 in
set_option maxHeartbeats 1000000 in
theorem copyExpr_of (e : Ex) (H : ∀ y ∈ e.of, PCp y) : PCp e := by
  intro w va ha hsz
  have HA : Hid _ := ha
  have HH : Hid (∀ z ∈ e.of, PCp z) := H
  have hse := Ex.size_eq e
  have hle := Ex.sizes_len e.of
  have HSZ : Hid (∀ k (h : k < e.of.length), e.of[k].size ≤ 1073741824) := fun k h => by have := Ex.size_mem e.of e.of[k] (List.getElem_mem h); omega
  have hn : e.of.length ≤ 1073741824 := by omega
  clear hse hle hsz
  cases ha with
  | mk _ a cap f hl hc hk =>
  have HK : Hid (∀ i (h : i < e.of.length), ExsIn w 0 w.heap.size e.of[i].of (f i)) := hk
  have hone : ∀ i, i < e.of.length → ∀ u ∈ (e.of.getD i ex0).cells (f i), u.oneCell' = true := by
    intro i hi u hu
    obtain ⟨a1, n1, q1, e1⟩ := (hk i hi).form
    rw [e1] at hu
    exact Ex.cells_one _ _ _ _ u hu
  have HF : Hid (∀ W, Kept w W → Calls Try.prog 50 #[.slice a e.of.length cap] W fun r w' => Fresh W a e.of.length 4 (fun i => (e.of.getD i ex0).cells (f i)) r w') :=
    fun W hW => freshEx W (Rng 0 w.heap.size) a e.of.length cap _ hl (hc.stays (hW.stays (Nat.le_refl _))) (fun i hi => rfl) hone (fun k hk => Nat.lt_of_lt_of_le hk.2 hW.size) hn
  clear H hl hc hk hone
  unfold Ex.val
  go_enter Try.func48, Try.ntmps48
  go_wp2_with fail
  refine (HF.out _ (((Kept.refl _).al _).al _)).mono ?_
  rintro r w1 ⟨kw, hr⟩
  have hz1 : w.heap.size + 1 < w1.heap.size := by have := kw.size; simp at this; omega
  have hz0 : w.heap.size < w1.heap.size := by omega
  have KW1 : Hid (Kept w w1) := (((Kept.refl _).al _).al _ : Kept w _).then kw
  obtain ⟨hc1, hf1⟩ := bcell kw
  have b0 : w1.cell? ⟨w.heap.size, 0, none⟩ = some (.int .i64 e.kind) := by rw [hc1 _ _ (by simp; omega)]; simp
  have b1 : w1.cell? ⟨w.heap.size, 1, none⟩ = some (.int .i64 e.n) := by rw [hc1 _ _ (by simp; omega)]; simp
  have b2 : w1.cell? ⟨w.heap.size, 2, none⟩ = some (.string e.name) := by rw [hc1 _ _ (by simp; omega)]; simp
  have b3 : w1.cell? ⟨w.heap.size, 3, none⟩ = some (.slice a e.of.length cap) := by rw [hc1 _ _ (by simp; omega)]; simp
  have bf : ∀ j, w1.frozen? ⟨w.heap.size, j, none⟩ = false := fun j => by rw [hf1 _ _ (by simp; omega)]; simp
  have r0 : w1.cell? ⟨w.heap.size + 1, 0, none⟩ = some (.int .i64 0) := by rw [hc1 _ _ (by simp)]; simp
  have r1 : w1.cell? ⟨w.heap.size + 1, 1, none⟩ = some (.int .i64 0) := by rw [hc1 _ _ (by simp)]; simp
  have r2 : w1.cell? ⟨w.heap.size + 1, 2, none⟩ = some (.string ⟨#[]⟩) := by rw [hc1 _ _ (by simp)]; simp
  have r3 : w1.cell? ⟨w.heap.size + 1, 3, none⟩ = some (.slice none 0 0) := by rw [hc1 _ _ (by simp)]; simp
  have rf : ∀ j, w1.frozen? ⟨w.heap.size + 1, j, none⟩ = false := fun j => by rw [hf1 _ _ (by simp)]; simp
  clear hc1 hf1
  have hr' : ∃ a', r = .returned (.slice a' e.of.length e.of.length) ∧ (0 < e.of.length → ∃ g, a' = some ⟨g, 0, none⟩ ∧ w.heap.size + 2 ≤ g ∧ g < w1.heap.size ∧ RowNow w1 g e.of.length 4 (fun i => (e.of.getD i ex0).cells (f i))) := by
    rcases hr with ⟨_, h0, rfl⟩ | ⟨g, hg1, hg2, rfl, hrow⟩
    · exact ⟨none, by rw [h0], fun h => by omega⟩
    · exact ⟨_, rfl, fun _ => ⟨g, rfl, by simpa using hg1, hg2, hrow⟩⟩
  obtain ⟨a', rfl, hrow⟩ := hr'
  have HR : Hid _ := hrow
  clear hr kw hrow
  have b3' : (w1.setCell ⟨w.heap.size, 3, none⟩ (.slice a' e.of.length e.of.length)).cell? ⟨w.heap.size, 3, none⟩ = some (.slice a' e.of.length e.of.length) := World.cell?_setCell_same _ _ _ b3
  go_wp2_with fail
  obtain ⟨W2, hW2⟩ : ∃ W2, w1.setCell ⟨w.heap.size, 3, none⟩ (.slice a' e.of.length e.of.length) = W2 := ⟨_, rfl⟩
  have HW2 : Hid (Kept w W2 ∧ W2.heap.size = w1.heap.size ∧ W2.cell? ⟨w.heap.size, 0, none⟩ = some (.int .i64 e.kind) ∧ W2.cell? ⟨w.heap.size, 1, none⟩ = some (.int .i64 e.n) ∧ W2.cell? ⟨w.heap.size, 2, none⟩ = some (.string e.name) ∧ W2.cell? ⟨w.heap.size, 3, none⟩ = some (.slice a' e.of.length e.of.length) ∧
      W2.cell? ⟨w.heap.size + 1, 0, none⟩ = some (.int .i64 0) ∧ W2.cell? ⟨w.heap.size + 1, 1, none⟩ = some (.int .i64 0) ∧ W2.cell? ⟨w.heap.size + 1, 2, none⟩ = some (.string ⟨#[]⟩) ∧ W2.cell? ⟨w.heap.size + 1, 3, none⟩ = some (.slice none 0 0) ∧ (∀ j, W2.frozen? ⟨w.heap.size + 1, j, none⟩ = false) ∧
      (0 < e.of.length → ∃ g, a' = some ⟨g, 0, none⟩ ∧ CpE w W2 W2 e.of f g 0)) := by
    subst hW2
    refine ⟨KW1.out.setCell (Nat.le_refl _) _, by simp [World.setCell], ?_, ?_, ?_, b3', ?_, ?_, ?_, ?_, ?_, fun h => ?_⟩
    · rw [World.cell?_setCell_other _ _ _ _ (by simp)]; exact b0
    · rw [World.cell?_setCell_other _ _ _ _ (by simp)]; exact b1
    · rw [World.cell?_setCell_other _ _ _ _ (by simp)]; exact b2
    · rw [World.cell?_setCell_other _ _ _ _ (by simp)]; exact r0
    · rw [World.cell?_setCell_other _ _ _ _ (by simp)]; exact r1
    · rw [World.cell?_setCell_other _ _ _ _ (by simp)]; exact r2
    · rw [World.cell?_setCell_other _ _ _ _ (by simp)]; exact r3
    · intro j
      rw [World.frozen?_of_block (w := w1) (a := ⟨w.heap.size + 1, j, none⟩) (Below.heap_setCell w1 _ _ _ (by simp))]; exact rf j
    · obtain ⟨g, e1, e2, e3, e4⟩ := HR.out h
      refine ⟨g, e1, Below.refl _ _, by simp [World.setCell]; exact e3, e2, _, e4.stays (Below.heap_setCell w1 _ _ _ (by simp; omega)), fun i hi h => by omega, fun i hi _ => ?_⟩
      have : e.of.getD i ex0 = e.of[i] := by simp [List.getD, hi]
      simp only [this]
  rw [hW2]
  clear hW2 b0 b1 b2 b3 b3' bf r0 r1 r2 r3 rf HR KW1 hz0 hz1
  go_loopw [12] (fun i wr => ∃ k : Nat, i = .int .i64 (k : Int) ∧ k ≤ e.of.length ∧ Hid (Below (w.heap.size + 2) W2 wr ∧ (0 < e.of.length → ∃ g, a' = some ⟨g, 0, none⟩ ∧ CpE w W2 wr e.of f g k))) (fun i _ => e.of.length - (intOf i).toNat)
  case atStart => exact ⟨0, rfl, Nat.zero_le _, Below.refl _ _, HW2.out.2.2.2.2.2.2.2.2.2.2.2⟩
  case round =>
    obtain ⟨k, rfl, hk, HB⟩ := hrel
    obtain ⟨kw2, hs2, b0, b1, b2, b3, r0, r1, r2, r3, rf, -⟩ := HW2.out
    have hz2 : w.heap.size + 1 < W2.heap.size := World.block_lt_of_cell? _ _ r0
    have hbel : Below (w.heap.size + 2) W2 wr := HB.out.1
    have hzr := hbel.size
    have b3 : wr.cell? ⟨w.heap.size, 3, none⟩ = some (.slice a' e.of.length e.of.length) := (hbel.cell (by simp)).trans b3
    by_cases hlt : k < e.of.length
    · have hki : (k : Int) < (e.of.length : Int) := by omega
      obtain ⟨g, rfl, hcp⟩ := HB.out.2 (by omega)
      have HCP : Hid (CpE w W2 wr e.of f g k) := hcp
      obtain ⟨-, hglt, hgge, c, hrow, -, hold⟩ := hcp
      have hck := hold k hlt (Nat.le_refl _)
      have HX : Hid _ := HK.out k hlt
      obtain ⟨a1, n1, q1, e1⟩ := HX.out.form
      rw [e1] at hck HX
      have hrg := hrow.cells k hlt
      rw [hck] at hrg
      have c0 : wr.cell? ⟨g, k * 4, none⟩ = some (.int .i64 e.of[k].kind) := hrg 0 _ rfl
      have c1 : wr.cell? ⟨g, k * 4 + 1, none⟩ = some (.int .i64 e.of[k].n) := hrg 1 _ rfl
      have c2 : wr.cell? ⟨g, k * 4 + 2, none⟩ = some (.string e.of[k].name) := hrg 2 _ rfl
      have c3 : wr.cell? ⟨g, k * 4 + 3, none⟩ = some (.slice a1 n1 q1) := hrg 3 _ rfl
      have hfz : ∀ j, wr.frozen? ⟨g, j, none⟩ = false := hrow.fz
      have hzw : w.heap.size < wr.heap.size := by omega
      have KWr : Hid (Kept w wr) := Below.trans kw2 (hbel.mono (by omega))
      have hPk : Hid (∀ W, Kept wr W → Calls Try.prog 48 #[.agg #[.int .i64 e.of[k].kind, .int .i64 e.of[k].n, .string e.of[k].name, .slice a1 n1 q1]] W fun r w' => ∃ a2 n2 q2, r = .returned (.agg #[.int .i64 e.of[k].kind, .int .i64 e.of[k].n, .string e.of[k].name, .slice a2 n2 q2]) ∧ Hid (ExsIn w' wr.heap.size w'.heap.size e.of[k].of (.slice a2 n2 q2) ∧ Kept wr w') ∧
          w'.cell? ⟨w.heap.size, 3, none⟩ = some (.slice (some ⟨g, 0, none⟩) e.of.length e.of.length) ∧ w'.cell? ⟨g, k * 4, none⟩ = some (.int .i64 e.of[k].kind) ∧ w'.cell? ⟨g, k * 4 + 1, none⟩ = some (.int .i64 e.of[k].n) ∧ w'.cell? ⟨g, k * 4 + 2, none⟩ = some (.string e.of[k].name) ∧ w'.cell? ⟨g, k * 4 + 3, none⟩ = some (.slice a1 n1 q1) ∧ ∀ j, w'.frozen? ⟨g, j, none⟩ = false) := by
        intro W hW
        refine (HH.out _ (List.getElem_mem hlt) W _ (HX.out.up (Nat.le_refl _) (KWr.out.then hW)) (HSZ.out k hlt)).mono ?_
        rintro r w3 ⟨v', rfl, hv', kw3⟩
        obtain ⟨a2, n2, q2, rfl⟩ := hv'.form
        have KK : Kept wr w3 := hW.then kw3
        exact ⟨a2, n2, q2, rfl, ⟨hv'.mono (Rng.up hW.size (Nat.le_refl _)), KK⟩, KK.cellS b3, KK.cellS c0, KK.cellS c1, KK.cellS c2, KK.cellS c3, fun j => (KK.frozen hglt).trans (hfz j)⟩
      clear hck e1 hrg hrow hold kw2 hs2 b0 b1 b2 r0 r1 r2 r3 rf hbel
      go_wp2_with fail
      go_region_with ((go_at_call 48; refine (hPk.out _ ((Kept.refl wr).al _).dr).mono ?_; rintro r w3 ⟨a2, n2, q2, rfl, HV, z3, z4, z5, z6, z7, z8⟩))
      all_goals
        go_wp2_with fail
        go_roundw
        case rel =>
          have NX := HCP.out.next hlt HV.out.2 _ HV.out.1
          exact ⟨k + 1, by go_num, by omega, NX.bel, fun _ => ⟨g, rfl, NX⟩⟩
        case measure => simp [intOf]; omega
    · have hki : ¬ (k : Int) < (e.of.length : Int) := by omega
      obtain rfl : k = e.of.length := by omega
      have b0 : wr.cell? ⟨w.heap.size, 0, none⟩ = some (.int .i64 e.kind) := (hbel.cell (by simp)).trans b0
      have b1 : wr.cell? ⟨w.heap.size, 1, none⟩ = some (.int .i64 e.n) := (hbel.cell (by simp)).trans b1
      have b2 : wr.cell? ⟨w.heap.size, 2, none⟩ = some (.string e.name) := (hbel.cell (by simp)).trans b2
      have r0 : wr.cell? ⟨w.heap.size + 1, 0, none⟩ = some (.int .i64 0) := (hbel.cell (by simp)).trans r0
      have r1 : wr.cell? ⟨w.heap.size + 1, 1, none⟩ = some (.int .i64 0) := (hbel.cell (by simp)).trans r1
      have r2 : wr.cell? ⟨w.heap.size + 1, 2, none⟩ = some (.string ⟨#[]⟩) := (hbel.cell (by simp)).trans r2
      have r3 : wr.cell? ⟨w.heap.size + 1, 3, none⟩ = some (.slice none 0 0) := (hbel.cell (by simp)).trans r3
      have rf : ∀ j, wr.frozen? ⟨w.heap.size + 1, j, none⟩ = false := fun j => (hbel.frozen (by simp)).trans (rf j)
      have KWr : Hid (Kept w wr) := Below.trans kw2 (hbel.mono (by omega))
      have HE : Hid (ExsIn wr (w.heap.size + 2) wr.heap.size e.of (.slice a' e.of.length e.of.length)) := by
        by_cases h0 : 0 < e.of.length
        · obtain ⟨g, rfl, hcp⟩ := HB.out.2 h0
          exact hcp.done (by omega)
        · refine .mk e.of _ _ (fun _ => undef) ⟨Nat.le_refl _, by unfold maxLen; omega, fun _ => by omega⟩ (fun i hi => by omega) fun i hi => by omega
      clear kw2 hs2 hbel
      go_wp2_with fail
      have HT : wr.there (w.heap.size + 1) 0 4 := there_of 4 (fun j hj => by
        match j, hj with
        | 0, _ => exact ⟨_, r0⟩
        | 1, _ => exact ⟨_, r1⟩
        | 2, _ => exact ⟨_, r2⟩
        | 3, _ => exact ⟨_, r3⟩) rf
      have hsz := size_setCells (w.heap.size + 1) (e.cells (.slice a' e.of.length e.of.length)) 0 wr
      have st : StaysD (Rng (w.heap.size + 2) wr.heap.size) wr (wr.setCells (w.heap.size + 1) 0 (e.cells (.slice a' e.of.length e.of.length))) := fun i hi => heap_setCells _ _ _ _ i (by have := hi.1; omega)
      refine bodyPost_ret (v := .agg (e.cells (.slice a' e.of.length e.of.length)).toArray) (w := wr.setCells (w.heap.size + 1) 0 (e.cells (.slice a' e.of.length e.of.length))) ?_ rfl ⟨_, rfl, ?_, ?_⟩
      · exact results_cell_mid (P := Try.prog) Try.results48 _ _ (w.heap.size + 1) 0 _ _ rfl (World.rangeAt_setCells_same _ _ _ _ HT) Try.underlying24 rfl esizeEx
      · exact (HE.out.stays st).mono (Rng.up (by omega) (by omega))
      · exact Below.setCells KWr.out (by omega) _ _

theorem copyExpr_any (e : Ex) : PCp e := Ex.ind copyExpr_of e
#print axioms copyExpr_any
end Go.Proofs.Ytoaaikbplnpmmaa
