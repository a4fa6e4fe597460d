/- What Copy answers: the same program, in memory of its own. -/
import Derived.Test.YtoaaikbplnpmmaaCt
namespace Go.Proofs.Ytoaaikbplnpmmaa
open Go.RowKit
attribute [local go_sem] run_store_complex

/-- Where Copy stands before round k. -/
structure CpT (w W0 wr : World) (l : List (List St)) (f : Nat → Value) (b k : Nat) : Prop where
  bel : Below (w.heap.size + 2) W0 wr
  lt : b < wr.heap.size
  ge : w.heap.size + 2 ≤ b
  row : ∃ c, RowNow wr b l.length 1 c ∧ (∀ i (_ : i < l.length), i < k → ∃ v, c i = [v] ∧ StsIn wr (b + 1) wr.heap.size l[i] v) ∧ (∀ i (_ : i < l.length), k ≤ i → c i = [f i])

theorem CpT.next {w W0 wr w1 : World} {l : List (List St)} {f : Nat → Value} {b k : Nat} (H : CpT w W0 wr l f b k) (hk : k < l.length) (kw : Kept wr w1) (v : Value) (hv : StsIn w1 wr.heap.size w1.heap.size l[k] v) :
    CpT w W0 (w1.setCell ⟨b, k, none⟩ v) l f b (k + 1) := by
  obtain ⟨hb, hlt, hge, c, hr, h1, h2⟩ := H
  have he : w1.setCell ⟨b, k, none⟩ v = w1.setCells b (k * 1) [v] := by rw [Nat.mul_one]; rfl
  rw [he]
  have hs := size_setCells b [v] (k * 1) w1
  have hz := kw.size
  have st : StaysD (Rng (b + 1) w1.heap.size) w1 (w1.setCells b (k * 1) [v]) := fun i hi => heap_setCells b _ _ _ i (by have := hi.1; omega)
  refine ⟨Below.setCells (hb.trans (kw.mono (by have := hb.size; omega))) (by omega) _ _, by omega, hge, _, (hr.stays (kw.block b hlt)).set k hk [v] rfl, fun i hi hik => ?_, fun i hi hik => ?_⟩
  · by_cases e : i = k
    · subst e
      exact ⟨v, by simp, ((hv.mono (Rng.up (by omega) (Nat.le_refl _))).stays st).mono (Rng.up (Nat.le_refl _) (by omega))⟩
    · obtain ⟨u, e1, e2⟩ := h1 i hi (by omega)
      refine ⟨u, by simp only [if_neg e]; exact e1, ?_⟩
      exact (((e2.stays (kw.stays (Nat.le_refl _))).mono (Rng.up (Nat.le_refl _) hz)).stays st).mono (Rng.up (Nat.le_refl _) (by omega))
  · simp only [if_neg (show ¬ i = k by omega)]
    exact h2 i hi (by omega)

theorem CpT.done {w W0 wr : World} {l : List (List St)} {f : Nat → Value} {b : Nat} (H : CpT w W0 wr l f b l.length) (hl : l.length ≤ 9223372036854775807) : TsIn wr (w.heap.size + 2) wr.heap.size l (.slice (some ⟨b, 0, none⟩) l.length l.length) := by
  obtain ⟨hb, hlt, hge, c, hr, h1, h2⟩ := H
  have hc : ∀ i, i < l.length → ∃ q : Value, ∀ _ : i < l.length, c i = [q] ∧ StsIn wr (b + 1) wr.heap.size l[i] q := fun i hi => by
    obtain ⟨v, hv⟩ := h1 i hi hi
    exact ⟨v, fun _ => hv⟩
  have hc' : ∃ q : Nat → Value, ∀ i (_ : i < l.length), c i = [q i] ∧ StsIn wr (b + 1) wr.heap.size l[i] (q i) := by
    refine ⟨fun i => if h : i < l.length then Classical.choose (hc i h) else undef, fun i h => ?_⟩
    simp only [dif_pos h]
    exact Classical.choose_spec (hc i h) h
  obtain ⟨q, hq⟩ := hc'
  refine ⟨_, _, q, rfl, ⟨Nat.le_refl _, by unfold maxLen; omega, fun h => by cases h⟩, ?_, fun i h => (hq i h).2.mono (Rng.up (by omega) (Nat.le_refl _))⟩
  intro i hi
  obtain ⟨b', o, e, h3, h4, h5⟩ := (hr.rowAt (D := Rng (w.heap.size + 2) wr.heap.size) ⟨by omega, hlt⟩) i hi
  refine ⟨b', o, e, h3, h4, ?_⟩
  rw [(hq i hi).1] at h5
  exact h5

theorem Dc.cells_one (d : Dc) : ∀ u ∈ d.cells, u.oneCell' = true := by
  intro u hu
  simp [Dc.cells] at hu
  rcases hu with rfl | rfl | rfl | rfl <;> rfl

set_option maxRecDepth 100000 in
set_option maxHeartbeats 2000000 in
theorem copy_any (d : List Dc) (t : List (List St)) (w : World) (dv tv : Value) (hd : DsIn w 0 w.heap.size d dv) (ht : TsIn w 0 w.heap.size t tv) (hdn : d.length ≤ 1073741824) (htn : t.length ≤ 1073741824) (hwt : ∀ x ∈ t, St.wts x ≤ 1073741824) :
    Calls Try.prog 11 #[.agg #[dv, tv]] w fun r w' => ∃ dv' tv' M, r = .returned (.agg #[dv', tv']) ∧ w.heap.size ≤ M ∧ M ≤ w'.heap.size ∧ TsIn w' w.heap.size M t tv' ∧ DsIn w' M w'.heap.size d dv' ∧ Kept w w' := by
  obtain ⟨ad, capd, rfl, hsd, hrd⟩ := hd.out
  obtain ⟨a, cap, f, rfl, hs, hr, hk⟩ := ht.out
  have HF : Hid (∀ W, Kept w W → Calls Try.prog 27 #[.slice a t.length cap] W fun r w' => Fresh W a t.length 1 (fun i => [f i]) r w') :=
    fun W hW => freshTs W (Rng 0 w.heap.size) a t.length cap _ hs (hr.stays (hW.stays (Nat.le_refl _))) (fun i hi => rfl) (fun i hi u hu => by
      obtain ⟨a1, n1, q1, e1⟩ := (hk i hi).form
      simp only [List.mem_singleton] at hu
      subst hu
      rw [e1]; rfl) (fun k hk => Nat.lt_of_lt_of_le hk.2 hW.size) htn
  have HD : Hid (∀ W, Kept w W → Calls Try.prog 29 #[.slice ad d.length capd] W fun r w' => Fresh W ad d.length 4 (fun i => (d.getD i dc0).cells) r w') :=
    fun W hW => freshDc W (Rng 0 w.heap.size) ad d.length capd _ hsd (hrd.stays (hW.stays (Nat.le_refl _))) (fun i hi => rfl) (fun i hi u hu => Dc.cells_one _ u hu) (fun k hk => Nat.lt_of_lt_of_le hk.2 hW.size) hdn
  have HK : Hid (∀ i (_ : i < t.length), StsIn w 0 w.heap.size t[i] (f i)) := hk
  have HSZ : Hid (∀ x ∈ t, St.wts x ≤ 1073741824) := hwt
  clear hd ht hsd hrd hs hr hk hwt
  go_enter Try.func11, Try.ntmps11
  go_wp2_with fail
  refine (HF.out _ (((Kept.refl _).al _).al _)).mono ?_
  rintro r w1 ⟨kw, hr⟩
  have hz1 : w.heap.size + 1 < w1.heap.size := by have := kw.size; simp at this; omega
  have KW1 : Hid (Kept w w1) := (((Kept.refl _).al _).al _ : Kept w _).then kw
  obtain ⟨hc1, hf1⟩ := bcell kw
  have b0 : w1.cell? ⟨w.heap.size, 0, none⟩ = some (.slice ad d.length capd) := by rw [hc1 _ _ (by simp; omega)]; simp
  have r0 : w1.cell? ⟨w.heap.size + 1, 0, none⟩ = some (.slice none 0 0) := by rw [hc1 _ _ (by simp)]; simp
  have r1 : w1.cell? ⟨w.heap.size + 1, 1, none⟩ = some (.slice none 0 0) := by rw [hc1 _ _ (by simp)]; simp
  have rf : ∀ j, w1.frozen? ⟨w.heap.size + 1, j, none⟩ = false := fun j => by rw [hf1 _ _ (by simp)]; simp
  have HF1 : Hid (w1.cell? ⟨w.heap.size, 0, none⟩ = some (.slice ad d.length capd) ∧ w1.cell? ⟨w.heap.size + 1, 0, none⟩ = some (.slice none 0 0) ∧ w1.cell? ⟨w.heap.size + 1, 1, none⟩ = some (.slice none 0 0) ∧ ∀ j, w1.frozen? ⟨w.heap.size + 1, j, none⟩ = false) := ⟨b0, r0, r1, rf⟩
  have hr' : ∃ a', r = .returned (.slice a' t.length t.length) ∧ (0 < t.length → ∃ b, a' = some ⟨b, 0, none⟩ ∧ CpT w w1 w1 t f b 0) := by
    rcases hr with ⟨_, h0, rfl⟩ | ⟨b, hg1, hg2, rfl, hrow⟩
    · exact ⟨none, by rw [h0], fun h => by omega⟩
    · exact ⟨_, rfl, fun _ => ⟨b, rfl, Below.refl _ _, hg2, by simpa using hg1, _, hrow, fun i hi h => by omega, fun i hi _ => rfl⟩⟩
  obtain ⟨a', rfl, hrow⟩ := hr'
  have HR : Hid _ := hrow
  clear hr kw hrow hc1 hf1 b0 r0 r1 rf
  go_wp2_with fail
  go_loopw [11] (fun i wr => ∃ k : Nat, i = .int .i64 (k : Int) ∧ k ≤ t.length ∧ Hid (Below (w.heap.size + 2) w1 wr ∧ (0 < t.length → ∃ b, a' = some ⟨b, 0, none⟩ ∧ CpT w w1 wr t f b k))) (fun i _ => t.length - (intOf i).toNat)
  case atStart => exact ⟨0, rfl, Nat.zero_le _, Below.refl _ _, HR.out⟩
  case round =>
    obtain ⟨k, rfl, hk, HB⟩ := hrel
    have hbel := HB.out.1
    have hzr := hbel.size
    have KWr : Hid (Kept w wr) := Below.trans KW1.out (hbel.mono (by omega))
    by_cases hlt : k < t.length
    · have hki : (k : Int) < (t.length : Int) := by omega
      obtain ⟨b, rfl, hcp⟩ := HB.out.2 (by omega)
      have HCP : Hid (CpT w w1 wr t f b k) := hcp
      obtain ⟨-, hglt, hgge, c, hrow, -, hold⟩ := hcp
      have hck := hold k hlt (Nat.le_refl _)
      have HX := HK.out k hlt
      obtain ⟨a1, n1, q1, e1⟩ := HX.form
      rw [e1] at hck HX
      have hrg := hrow.cells k hlt
      rw [hck] at hrg
      have hfz : ∀ j, wr.frozen? ⟨b, j, none⟩ = false := hrow.fz
      have c0 : wr.cell? ⟨b, k, none⟩ = some (.slice a1 n1 q1) := by have := hrg 0 _ rfl; rwa [Nat.mul_one] at this
      have hPk : Hid (Calls Try.prog 28 #[.slice a1 n1 q1] wr fun r w' => ∃ a2 n2 q2, r = .returned (.slice a2 n2 q2) ∧ Hid (StsIn w' wr.heap.size w'.heap.size t[k] (.slice a2 n2 q2) ∧ Kept wr w') ∧ w'.cell? ⟨b, k, none⟩ = some (.slice a1 n1 q1) ∧ ∀ j, w'.frozen? ⟨b, j, none⟩ = false) := by
        refine (copyBlock_any t[k] wr _ (HX.up (Nat.le_refl _) KWr.out) (HSZ.out _ (List.getElem_mem hlt))).mono ?_
        rintro r w3 ⟨v', rfl, hv', kw3⟩
        obtain ⟨a2, n2, q2, rfl⟩ := hv'.form
        exact ⟨a2, n2, q2, rfl, ⟨hv', kw3⟩, kw3.cellS c0, fun j => (kw3.frozen hglt).trans (hfz j)⟩
      clear hck e1 hrg hrow hold HX hbel
      go_wp2_with fail
      refine Calls.mono hPk.out ?_
      rintro r w3 ⟨a2, n2, q2, rfl, HV, z0, zf⟩
      go_wp2_with fail
      go_roundw
      case rel =>
        have NX := HCP.out.next hlt HV.out.2 _ HV.out.1
        exact ⟨k + 1, by go_num, by omega, NX.bel, fun _ => ⟨b, rfl, NX⟩⟩
      case measure => simp [intOf]; omega
    · have hki : ¬ (k : Int) < (t.length : Int) := by omega
      obtain rfl : k = t.length := by omega
      have HE : Hid (TsIn wr (w.heap.size + 2) wr.heap.size t (.slice a' t.length t.length)) := by
        by_cases h0 : 0 < t.length
        · obtain ⟨b, rfl, hcp⟩ := HB.out.2 h0
          exact hcp.done (by omega)
        · exact ⟨_, _, fun _ => undef, rfl, ⟨Nat.le_refl _, by unfold maxLen; omega, fun _ => by omega⟩, (fun i hi => by omega), fun i hi => by omega⟩
      have b0 : wr.cell? ⟨w.heap.size, 0, none⟩ = some (.slice ad d.length capd) := (hbel.cell (by simp)).trans HF1.out.1
      have HPd : Hid (Calls Try.prog 29 #[.slice ad d.length capd] wr fun r w' => ∃ a2, r = .returned (.slice a2 d.length d.length) ∧ Hid (DsIn w' wr.heap.size w'.heap.size d (.slice a2 d.length d.length) ∧ Kept wr w') ∧ w'.cell? ⟨w.heap.size + 1, 0, none⟩ = some (.slice none 0 0) ∧ w'.cell? ⟨w.heap.size + 1, 1, none⟩ = some (.slice none 0 0) ∧ ∀ j, w'.frozen? ⟨w.heap.size + 1, j, none⟩ = false) := by
        refine (HD.out wr KWr.out).mono ?_
        rintro r w3 ⟨kw3, hr⟩
        have g0 := kw3.cellS ((hbel.cell (p := ⟨w.heap.size + 1, 0, none⟩) (by simp)).trans HF1.out.2.1)
        have g1 := kw3.cellS ((hbel.cell (p := ⟨w.heap.size + 1, 1, none⟩) (by simp)).trans HF1.out.2.2.1)
        have gf : ∀ j, w3.frozen? ⟨w.heap.size + 1, j, none⟩ = false := fun j => (kw3.frozen (by simp; omega)).trans ((hbel.frozen (by simp)).trans (HF1.out.2.2.2 j))
        rcases hr with ⟨_, h0, rfl⟩ | ⟨b, hg1, hg2, rfl, hrow⟩
        · refine ⟨none, by rw [h0], ⟨⟨none, d.length, by rw [h0], ⟨Nat.le_refl _, by unfold maxLen; omega, fun _ => h0⟩, fun i hi => by omega⟩, kw3⟩, g0, g1, gf⟩
        · exact ⟨_, rfl, ⟨⟨_, _, rfl, ⟨Nat.le_refl _, by unfold maxLen; omega, fun h => by cases h⟩, hrow.rowAt ⟨hg1, hg2⟩⟩, kw3⟩, g0, g1, gf⟩
      clear hbel
      go_wp2_with fail
      refine Calls.mono HPd.out ?_
      rintro r w3 ⟨a2, rfl, HV, g0, g1, gf⟩
      go_wp2_with fail
      have HT : w3.there (w.heap.size + 1) 0 2 := there_of 2 (fun j hj => by
        match j, hj with
        | 0, _ => exact ⟨_, g0⟩
        | 1, _ => exact ⟨_, g1⟩) gf
      have hsz := size_setCells (w.heap.size + 1) [.slice a2 d.length d.length, .slice a' t.length t.length] 0 w3
      have hz3 := HV.out.2.size
      have st : ∀ lo hi, w.heap.size + 2 ≤ lo → StaysD (Rng lo hi) w3 (w3.setCells (w.heap.size + 1) 0 [.slice a2 d.length d.length, .slice a' t.length t.length]) := fun lo hi h i hi' => heap_setCells _ _ _ _ i (by have := hi'.1; omega)
      refine bodyPost_ret (v := .agg #[.slice a2 d.length d.length, .slice a' t.length t.length]) (w := w3.setCells (w.heap.size + 1) 0 [.slice a2 d.length d.length, .slice a' t.length t.length]) ?_ rfl ⟨_, _, wr.heap.size, rfl, by omega, by omega, ?_, ?_, ?_⟩
      · exact results_cell_mid (P := Try.prog) Try.results11 _ _ (w.heap.size + 1) 0 [.slice a2 d.length d.length, .slice a' t.length t.length] _ rfl (World.rangeAt_setCells_same _ _ _ _ HT) Try.underlying33 rfl (by kernel_rfl)
      · exact ((HE.out.stays (HV.out.2.stays (Nat.le_refl _))).stays (st _ _ (Nat.le_refl _))).mono (Rng.up (by omega) (Nat.le_refl _))
      · exact (HV.out.1.stays (st _ _ (by omega))).mono (Rng.up (Nat.le_refl _) (by omega))
      · exact Below.setCells (KWr.out.then HV.out.2) (by omega) _ _
#print axioms copy_any
end Go.Proofs.Ytoaaikbplnpmmaa
