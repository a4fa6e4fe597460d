/- What copyStmt answers. -/
import Derived.Test.YtoaaikbplnpmmaaCs
namespace Go.Proofs.Ytoaaikbplnpmmaa
open Go.RowKit
attribute [local go_sem] run_store_complex

set_option maxRecDepth 100000 in
set_option maxHeartbeats 2000000 in
theorem copyStmt_of (s : St) (HB : PCb s.body) (HL : PCb s.els) : PCs s := by
  intro w ev bv lv he hb hl hwt
  obtain ⟨a1, n1, q1, rfl⟩ := he.form
  obtain ⟨a2, n2, q2, rfl⟩ := hb.form
  obtain ⟨a3, n3, q3, rfl⟩ := hl.form
  have hw := St.wt_eq s
  have H1 : Hid (∀ W, Kept w W → Calls Try.prog 48 #[.agg #[.int .i64 s.e.kind, .int .i64 s.e.n, .string s.e.name, .slice a1 n1 q1]] W fun r w' => ∃ v', r = .returned (s.e.val v') ∧ ExsIn w' W.heap.size w'.heap.size s.e.of v' ∧ Kept W w') :=
    fun W hW => copyExpr_any s.e W _ (he.up (Nat.le_refl _) hW) (by omega)
  have H2 : Hid (∀ W, Kept w W → Calls Try.prog 28 #[.slice a2 n2 q2] W fun r w' => ∃ v', r = .returned v' ∧ StsIn w' W.heap.size w'.heap.size s.body v' ∧ Kept W w') :=
    fun W hW => HB W _ (hb.up (Nat.le_refl _) hW) (by omega)
  have H3 : Hid (∀ W, Kept w W → Calls Try.prog 28 #[.slice a3 n3 q3] W fun r w' => ∃ v', r = .returned v' ∧ StsIn w' W.heap.size w'.heap.size s.els v' ∧ Kept W w') :=
    fun W hW => HL W _ (hl.up (Nat.le_refl _) hW) (by omega)
  clear HB HL he hb hl hwt hw
  unfold St.val
  go_enter Try.func41, Try.ntmps41
  go_wp2_with fail
  refine (H1.out _ (((Kept.refl _).al _).al _)).mono ?_
  rintro r w1 ⟨v1, rfl, hv1, kw⟩
  have hz1 : w.heap.size + 1 < w1.heap.size := by have := kw.size; simp at this; omega
  have hz0 : w.heap.size < w1.heap.size := by omega
  obtain ⟨a4, n4, q4, rfl⟩ := hv1.form
  unfold Ex.val
  have KW1 : Hid (Kept w w1) := (((Kept.refl _).al _).al _ : Kept w _).then kw
  have HV1 : Hid (ExsIn w1 (w.heap.size + 2) w1.heap.size s.e.of (.slice a4 n4 q4)) := hv1.mono (Rng.up (by simp) (Nat.le_refl _))
  obtain ⟨hc1, hf1⟩ := bcell kw
  have b0 : w1.cell? ⟨w.heap.size, 0, none⟩ = some (.int .i64 s.kind) := by rw [hc1 _ _ (by simp; omega)]; simp
  have b1 : w1.cell? ⟨w.heap.size, 1, none⟩ = some (.string s.name) := by rw [hc1 _ _ (by simp; omega)]; simp
  have b2 : w1.cell? ⟨w.heap.size, 2, none⟩ = some (.string s.other) := by rw [hc1 _ _ (by simp; omega)]; simp
  have b3 : w1.cell? ⟨w.heap.size, 3, none⟩ = some (.int .i64 s.n) := by rw [hc1 _ _ (by simp; omega)]; simp
  have b4 : w1.cell? ⟨w.heap.size, 4, none⟩ = some (.int .i64 s.e.kind) := by rw [hc1 _ _ (by simp; omega)]; simp
  have b5 : w1.cell? ⟨w.heap.size, 5, none⟩ = some (.int .i64 s.e.n) := by rw [hc1 _ _ (by simp; omega)]; simp
  have b6 : w1.cell? ⟨w.heap.size, 6, none⟩ = some (.string s.e.name) := by rw [hc1 _ _ (by simp; omega)]; simp
  have b7 : w1.cell? ⟨w.heap.size, 7, none⟩ = some (.slice a1 n1 q1) := by rw [hc1 _ _ (by simp; omega)]; simp
  have b8 : w1.cell? ⟨w.heap.size, 8, none⟩ = some (.slice a2 n2 q2) := by rw [hc1 _ _ (by simp; omega)]; simp
  have b9 : w1.cell? ⟨w.heap.size, 9, none⟩ = some (.slice a3 n3 q3) := by rw [hc1 _ _ (by simp; omega)]; simp
  have b10 : w1.cell? ⟨w.heap.size, 10, none⟩ = some (.complex .f64 s.re s.im) := by rw [hc1 _ _ (by simp; omega)]; simp
  have bf : ∀ j, w1.frozen? ⟨w.heap.size, j, none⟩ = false := fun j => by rw [hf1 _ _ (by simp; omega)]; simp
  have r0 : w1.cell? ⟨w.heap.size + 1, 0, none⟩ = some (.int .i64 0) := by rw [hc1 _ _ (by simp)]; simp
  have r1 : w1.cell? ⟨w.heap.size + 1, 1, none⟩ = some (.string ⟨#[]⟩) := by rw [hc1 _ _ (by simp)]; simp
  have r2 : w1.cell? ⟨w.heap.size + 1, 2, none⟩ = some (.string ⟨#[]⟩) := by rw [hc1 _ _ (by simp)]; simp
  have r3 : w1.cell? ⟨w.heap.size + 1, 3, none⟩ = some (.int .i64 0) := by rw [hc1 _ _ (by simp)]; simp
  have r4 : w1.cell? ⟨w.heap.size + 1, 4, none⟩ = some (.int .i64 0) := by rw [hc1 _ _ (by simp)]; simp
  have r5 : w1.cell? ⟨w.heap.size + 1, 5, none⟩ = some (.int .i64 0) := by rw [hc1 _ _ (by simp)]; simp
  have r6 : w1.cell? ⟨w.heap.size + 1, 6, none⟩ = some (.string ⟨#[]⟩) := by rw [hc1 _ _ (by simp)]; simp
  have r7 : w1.cell? ⟨w.heap.size + 1, 7, none⟩ = some (.slice none 0 0) := by rw [hc1 _ _ (by simp)]; simp
  have r8 : w1.cell? ⟨w.heap.size + 1, 8, none⟩ = some (.slice none 0 0) := by rw [hc1 _ _ (by simp)]; simp
  have r9 : w1.cell? ⟨w.heap.size + 1, 9, none⟩ = some (.slice none 0 0) := by rw [hc1 _ _ (by simp)]; simp
  have r10 : w1.cell? ⟨w.heap.size + 1, 10, none⟩ = some (.complex .f64 0 0) := by rw [hc1 _ _ (by simp)]; simp
  have rf : ∀ j, w1.frozen? ⟨w.heap.size + 1, j, none⟩ = false := fun j => by rw [hf1 _ _ (by simp)]; simp
  clear hc1 hf1 hv1 kw
  go_wp2_with fail
  obtain ⟨W2, hW2⟩ : ∃ W2, w1.setCells w.heap.size 4 [.int .i64 s.e.kind, .int .i64 s.e.n, .string s.e.name, .slice a4 n4 q4] = W2 := ⟨_, rfl⟩
  have HT : w1.there w.heap.size 4 4 := there_of 4 (fun j hj => by
    match j, hj with
    | 0, _ => exact ⟨_, b4⟩
    | 1, _ => exact ⟨_, b5⟩
    | 2, _ => exact ⟨_, b6⟩
    | 3, _ => exact ⟨_, b7⟩) bf
  have hrg := World.rangeAt_setCells_same w1 w.heap.size 4 [.int .i64 s.e.kind, .int .i64 s.e.n, .string s.e.name, .slice a4 n4 q4] HT
  have hoth : ∀ p : Addr, (p.block = w.heap.size → p.off < 4 ∨ 8 ≤ p.off) → W2.cell? p = w1.cell? p := fun p hp => by
    rw [← hW2]; exact World.cell?_setCells_out w.heap.size _ 4 w1 p (fun hb _ => hp hb)
  have HW2 : Hid (Kept w W2 ∧ W2.heap.size = w1.heap.size ∧ ExsIn W2 (w.heap.size + 2) w1.heap.size s.e.of (.slice a4 n4 q4)) := by
    rw [← hW2]
    refine ⟨Below.setCells KW1.out (Nat.le_refl _) _ _, size_setCells _ _ _ _, HV1.out.stays fun i hi => heap_setCells _ _ _ _ i (by have := hi.1; omega)⟩
  have c0 : W2.cell? ⟨w.heap.size, 0, none⟩ = some (.int .i64 s.kind) := (hoth _ (by simp)).trans b0
  have c1 : W2.cell? ⟨w.heap.size, 1, none⟩ = some (.string s.name) := (hoth _ (by simp)).trans b1
  have c2 : W2.cell? ⟨w.heap.size, 2, none⟩ = some (.string s.other) := (hoth _ (by simp)).trans b2
  have c3 : W2.cell? ⟨w.heap.size, 3, none⟩ = some (.int .i64 s.n) := (hoth _ (by simp)).trans b3
  have c4 : W2.cell? ⟨w.heap.size, 4, none⟩ = some (.int .i64 s.e.kind) := by rw [← hW2]; exact hrg 0 _ rfl
  have c5 : W2.cell? ⟨w.heap.size, 5, none⟩ = some (.int .i64 s.e.n) := by rw [← hW2]; exact hrg 1 _ rfl
  have c6 : W2.cell? ⟨w.heap.size, 6, none⟩ = some (.string s.e.name) := by rw [← hW2]; exact hrg 2 _ rfl
  have c7 : W2.cell? ⟨w.heap.size, 7, none⟩ = some (.slice a4 n4 q4) := by rw [← hW2]; exact hrg 3 _ rfl
  have c8 : W2.cell? ⟨w.heap.size, 8, none⟩ = some (.slice a2 n2 q2) := (hoth _ (by simp)).trans b8
  have c9 : W2.cell? ⟨w.heap.size, 9, none⟩ = some (.slice a3 n3 q3) := (hoth _ (by simp)).trans b9
  have c10 : W2.cell? ⟨w.heap.size, 10, none⟩ = some (.complex .f64 s.re s.im) := (hoth _ (by simp)).trans b10
  have cf : ∀ j, W2.frozen? ⟨w.heap.size, j, none⟩ = false := fun j => by rw [← hW2, World.frozen?_setCells]; exact bf j
  have d0 : W2.cell? ⟨w.heap.size + 1, 0, none⟩ = some (.int .i64 0) := (hoth _ (by simp)).trans r0
  have d1 : W2.cell? ⟨w.heap.size + 1, 1, none⟩ = some (.string ⟨#[]⟩) := (hoth _ (by simp)).trans r1
  have d2 : W2.cell? ⟨w.heap.size + 1, 2, none⟩ = some (.string ⟨#[]⟩) := (hoth _ (by simp)).trans r2
  have d3 : W2.cell? ⟨w.heap.size + 1, 3, none⟩ = some (.int .i64 0) := (hoth _ (by simp)).trans r3
  have d4 : W2.cell? ⟨w.heap.size + 1, 4, none⟩ = some (.int .i64 0) := (hoth _ (by simp)).trans r4
  have d5 : W2.cell? ⟨w.heap.size + 1, 5, none⟩ = some (.int .i64 0) := (hoth _ (by simp)).trans r5
  have d6 : W2.cell? ⟨w.heap.size + 1, 6, none⟩ = some (.string ⟨#[]⟩) := (hoth _ (by simp)).trans r6
  have d7 : W2.cell? ⟨w.heap.size + 1, 7, none⟩ = some (.slice none 0 0) := (hoth _ (by simp)).trans r7
  have d8 : W2.cell? ⟨w.heap.size + 1, 8, none⟩ = some (.slice none 0 0) := (hoth _ (by simp)).trans r8
  have d9 : W2.cell? ⟨w.heap.size + 1, 9, none⟩ = some (.slice none 0 0) := (hoth _ (by simp)).trans r9
  have d10 : W2.cell? ⟨w.heap.size + 1, 10, none⟩ = some (.complex .f64 0 0) := (hoth _ (by simp)).trans r10
  have df : ∀ j, W2.frozen? ⟨w.heap.size + 1, j, none⟩ = false := fun j => by rw [← hW2, World.frozen?_setCells]; exact rf j
  change Code.wp _ _ _ _ (w1.setCells w.heap.size 4 [.int .i64 s.e.kind, .int .i64 s.e.n, .string s.e.name, .slice a4 n4 q4])
  rw [hW2]
  clear hW2 hrg hoth HT b0 b1 b2 b3 b4 b5 b6 b7 b8 b9 b10 r0 r1 r2 r3 r4 r5 r6 r7 r8 r9 r10 bf rf KW1 HV1
  have HF : Hid (W2.cell? ⟨w.heap.size, 0, none⟩ = some (.int .i64 s.kind) ∧ W2.cell? ⟨w.heap.size, 1, none⟩ = some (.string s.name) ∧ W2.cell? ⟨w.heap.size, 2, none⟩ = some (.string s.other) ∧ W2.cell? ⟨w.heap.size, 3, none⟩ = some (.int .i64 s.n) ∧ W2.cell? ⟨w.heap.size, 4, none⟩ = some (.int .i64 s.e.kind) ∧ W2.cell? ⟨w.heap.size, 5, none⟩ = some (.int .i64 s.e.n) ∧ W2.cell? ⟨w.heap.size, 6, none⟩ = some (.string s.e.name) ∧ W2.cell? ⟨w.heap.size, 7, none⟩ = some (.slice a4 n4 q4) ∧ W2.cell? ⟨w.heap.size, 8, none⟩ = some (.slice a2 n2 q2) ∧ W2.cell? ⟨w.heap.size, 9, none⟩ = some (.slice a3 n3 q3) ∧ W2.cell? ⟨w.heap.size, 10, none⟩ = some (.complex .f64 s.re s.im) ∧ (∀ j, W2.frozen? ⟨w.heap.size, j, none⟩ = false) ∧ W2.cell? ⟨w.heap.size + 1, 0, none⟩ = some (.int .i64 0) ∧ W2.cell? ⟨w.heap.size + 1, 1, none⟩ = some (.string ⟨#[]⟩) ∧ W2.cell? ⟨w.heap.size + 1, 2, none⟩ = some (.string ⟨#[]⟩) ∧ W2.cell? ⟨w.heap.size + 1, 3, none⟩ = some (.int .i64 0) ∧ W2.cell? ⟨w.heap.size + 1, 4, none⟩ = some (.int .i64 0) ∧ W2.cell? ⟨w.heap.size + 1, 5, none⟩ = some (.int .i64 0) ∧ W2.cell? ⟨w.heap.size + 1, 6, none⟩ = some (.string ⟨#[]⟩) ∧ W2.cell? ⟨w.heap.size + 1, 7, none⟩ = some (.slice none 0 0) ∧ W2.cell? ⟨w.heap.size + 1, 8, none⟩ = some (.slice none 0 0) ∧ W2.cell? ⟨w.heap.size + 1, 9, none⟩ = some (.slice none 0 0) ∧ W2.cell? ⟨w.heap.size + 1, 10, none⟩ = some (.complex .f64 0 0) ∧ (∀ j, W2.frozen? ⟨w.heap.size + 1, j, none⟩ = false)) := ⟨c0, c1, c2, c3, c4, c5, c6, c7, c8, c9, c10, cf, d0, d1, d2, d3, d4, d5, d6, d7, d8, d9, d10, df⟩
  have hzW : w.heap.size + 1 < W2.heap.size := by rw [HW2.out.2.1]; exact hz1
  have hzW0 : w.heap.size < W2.heap.size := by omega
  clear hz0 hz1
  have G2 : Hid (∀ W, Kept W2 W → Calls Try.prog 28 #[.slice a2 n2 q2] W fun r w' => ∃ a5 n5 q5, r = .returned (.slice a5 n5 q5) ∧ Hid (StsIn w' (w.heap.size + 2) w'.heap.size s.body (.slice a5 n5 q5) ∧ Kept W2 w') ∧ w'.cell? ⟨w.heap.size, 8, none⟩ = some (.slice a2 n2 q2) ∧ w'.cell? ⟨w.heap.size, 9, none⟩ = some (.slice a3 n3 q3) ∧ (∀ j, w'.frozen? ⟨w.heap.size, j, none⟩ = false)) := by
    intro W hW
    refine (H2.out W (HW2.out.1.then hW)).mono ?_
    rintro r w3 ⟨v', rfl, hv', kw3⟩
    obtain ⟨a5, n5, q5, rfl⟩ := hv'.form
    have KK : Kept W2 w3 := hW.then kw3
    exact ⟨a5, n5, q5, rfl, ⟨hv'.mono (Rng.up (by have := hW.size; omega) (Nat.le_refl _)), KK⟩, KK.cellS c8, KK.cellS c9, fun j => (KK.frozen hzW0).trans (cf j)⟩
  have G3 : Hid (∀ W, Kept W2 W → Calls Try.prog 28 #[.slice a3 n3 q3] W fun r w' => ∃ a6 n6 q6, r = .returned (.slice a6 n6 q6) ∧ Hid (StsIn w' W.heap.size w'.heap.size s.els (.slice a6 n6 q6) ∧ Kept W w' ∧ Kept W2 w') ∧ w'.cell? ⟨w.heap.size, 8, none⟩ = some (.slice a2 n2 q2) ∧ w'.cell? ⟨w.heap.size, 9, none⟩ = some (.slice a3 n3 q3) ∧ (∀ j, w'.frozen? ⟨w.heap.size, j, none⟩ = false)) := by
    intro W hW
    refine (H3.out W (HW2.out.1.then hW)).mono ?_
    rintro r w3 ⟨v', rfl, hv', kw3⟩
    obtain ⟨a6, n6, q6, rfl⟩ := hv'.form
    have KK : Kept W2 w3 := hW.then kw3
    exact ⟨a6, n6, q6, rfl, ⟨hv', kw3, KK⟩, KK.cellS c8, KK.cellS c9, fun j => (KK.frozen hzW0).trans (cf j)⟩
  clear c0 c1 c2 c3 c4 c5 c6 c7 c10 d0 d1 d2 d3 d4 d5 d6 d7 d8 d9 d10 df
  go_region_with (first | (go_at_call_of 28 (Value.slice a2 n2 q2); refine (G2.out _ (Kept.refl W2).dr).mono ?_; rintro r w3 ⟨a5, n5, q5, rfl, HX, z8, z9, zf⟩) | (go_at_call_of 28 (Value.slice a3 n3 q3); refine (G3.out _ HX.out.2).mono ?_; rintro r w4 ⟨a6, n6, q6, rfl, HY, y8, y9, yf⟩))
  all_goals
    obtain ⟨c0, c1, c2, c3, c4, c5, c6, c7, c8, c9, c10, cf, d0, d1, d2, d3, d4, d5, d6, d7, d8, d9, d10, df⟩ := HF.out
    have KK : Kept W2 w4 := HY.out.2.2
    have hz4 := KK.size
    obtain ⟨W5, hW5⟩ : ∃ W5, (w4.setCell ⟨w.heap.size, 8, none⟩ (.slice a5 n5 q5)).setCell ⟨w.heap.size, 9, none⟩ (.slice a6 n6 q6) = W5 := ⟨_, rfl⟩
    have hoth : ∀ p : Addr, ⟨w.heap.size, 8, none⟩ ≠ p → ⟨w.heap.size, 9, none⟩ ≠ p → W5.cell? p = w4.cell? p := fun p h1 h2 => by
      rw [← hW5, World.cell?_setCell_other _ _ _ _ h2, World.cell?_setCell_other _ _ _ _ h1]
    have e0 : W5.cell? ⟨w.heap.size, 0, none⟩ = some (.int .i64 s.kind) := (hoth _ (by simp) (by simp)).trans (KK.cellS c0)
    have e1 : W5.cell? ⟨w.heap.size, 1, none⟩ = some (.string s.name) := (hoth _ (by simp) (by simp)).trans (KK.cellS c1)
    have e2 : W5.cell? ⟨w.heap.size, 2, none⟩ = some (.string s.other) := (hoth _ (by simp) (by simp)).trans (KK.cellS c2)
    have e3 : W5.cell? ⟨w.heap.size, 3, none⟩ = some (.int .i64 s.n) := (hoth _ (by simp) (by simp)).trans (KK.cellS c3)
    have e4 : W5.cell? ⟨w.heap.size, 4, none⟩ = some (.int .i64 s.e.kind) := (hoth _ (by simp) (by simp)).trans (KK.cellS c4)
    have e5 : W5.cell? ⟨w.heap.size, 5, none⟩ = some (.int .i64 s.e.n) := (hoth _ (by simp) (by simp)).trans (KK.cellS c5)
    have e6 : W5.cell? ⟨w.heap.size, 6, none⟩ = some (.string s.e.name) := (hoth _ (by simp) (by simp)).trans (KK.cellS c6)
    have e7 : W5.cell? ⟨w.heap.size, 7, none⟩ = some (.slice a4 n4 q4) := (hoth _ (by simp) (by simp)).trans (KK.cellS c7)
    have e8 : W5.cell? ⟨w.heap.size, 8, none⟩ = some (.slice a5 n5 q5) := by rw [← hW5, World.cell?_setCell_other _ _ _ _ (by simp)]; exact World.cell?_setCell_same _ _ _ y8
    have e9 : W5.cell? ⟨w.heap.size, 9, none⟩ = some (.slice a6 n6 q6) := by rw [← hW5]; exact World.cell?_setCell_same _ _ _ ((World.cell?_setCell_other _ _ _ _ (by simp)).trans y9)
    have e10 : W5.cell? ⟨w.heap.size, 10, none⟩ = some (.complex .f64 s.re s.im) := (hoth _ (by simp) (by simp)).trans (KK.cellS c10)
    have f0 : W5.cell? ⟨w.heap.size + 1, 0, none⟩ = some (.int .i64 0) := (hoth _ (by simp) (by simp)).trans (KK.cellS d0)
    have f1 : W5.cell? ⟨w.heap.size + 1, 1, none⟩ = some (.string ⟨#[]⟩) := (hoth _ (by simp) (by simp)).trans (KK.cellS d1)
    have f2 : W5.cell? ⟨w.heap.size + 1, 2, none⟩ = some (.string ⟨#[]⟩) := (hoth _ (by simp) (by simp)).trans (KK.cellS d2)
    have f3 : W5.cell? ⟨w.heap.size + 1, 3, none⟩ = some (.int .i64 0) := (hoth _ (by simp) (by simp)).trans (KK.cellS d3)
    have f4 : W5.cell? ⟨w.heap.size + 1, 4, none⟩ = some (.int .i64 0) := (hoth _ (by simp) (by simp)).trans (KK.cellS d4)
    have f5 : W5.cell? ⟨w.heap.size + 1, 5, none⟩ = some (.int .i64 0) := (hoth _ (by simp) (by simp)).trans (KK.cellS d5)
    have f6 : W5.cell? ⟨w.heap.size + 1, 6, none⟩ = some (.string ⟨#[]⟩) := (hoth _ (by simp) (by simp)).trans (KK.cellS d6)
    have f7 : W5.cell? ⟨w.heap.size + 1, 7, none⟩ = some (.slice none 0 0) := (hoth _ (by simp) (by simp)).trans (KK.cellS d7)
    have f8 : W5.cell? ⟨w.heap.size + 1, 8, none⟩ = some (.slice none 0 0) := (hoth _ (by simp) (by simp)).trans (KK.cellS d8)
    have f9 : W5.cell? ⟨w.heap.size + 1, 9, none⟩ = some (.slice none 0 0) := (hoth _ (by simp) (by simp)).trans (KK.cellS d9)
    have f10 : W5.cell? ⟨w.heap.size + 1, 10, none⟩ = some (.complex .f64 0 0) := (hoth _ (by simp) (by simp)).trans (KK.cellS d10)
    have hblk : ∀ k, k ≠ w.heap.size → W5.heap[k]? = w4.heap[k]? := fun k hk => by
      rw [← hW5, Below.heap_setCell _ _ _ _ hk, Below.heap_setCell _ _ _ _ hk]
    have ff : ∀ j, W5.frozen? ⟨w.heap.size + 1, j, none⟩ = false := fun j => by
      rw [World.frozen?_of_block (w := w4) (a := ⟨w.heap.size + 1, j, none⟩) (hblk _ (by simp))]; exact (KK.frozen hzW).trans (df j)
    have hs5 : W5.heap.size = w4.heap.size := by rw [← hW5]; simp [World.setCell]
    have HFin : Hid (Kept w W5 ∧ ExsIn W5 (w.heap.size + 2) W5.heap.size s.e.of (.slice a4 n4 q4) ∧ StsIn W5 (w.heap.size + 2) W5.heap.size s.body (.slice a5 n5 q5) ∧ StsIn W5 (w.heap.size + 2) W5.heap.size s.els (.slice a6 n6 q6)) := by
      have hsW := HW2.out.2.1
      have kxy : Kept _ w4 := HY.out.2.1
      have hzx := kxy.size
      have st : ∀ hi, StaysD (Rng (w.heap.size + 2) hi) w4 W5 := fun hi i h => hblk i (by have := h.1; omega)
      refine ⟨?_, ?_, ?_, ?_⟩
      · rw [← hW5]; exact ((HW2.out.1.then KK).setCell (Nat.le_refl _) _).setCell (Nat.le_refl _) _
      · exact (((HW2.out.2.2.mono (Rng.up (Nat.le_refl _) (Nat.le_of_eq hsW.symm))).stays (KK.stays (Nat.le_refl _))).stays (st _)).mono (Rng.up (Nat.le_refl _) (by omega))
      · exact ((HX.out.1.stays (kxy.stays (Nat.le_refl _))).stays (st _)).mono (Rng.up (Nat.le_refl _) (by omega))
      · refine ((HY.out.1.mono (Rng.up ?_ (Nat.le_refl _))).stays (st _)).mono (Rng.up (Nat.le_refl _) (by omega))
        have := HX.out.2.size
        first | exact Nat.le_trans hzW this | (simp; omega)
    rw [hW5]
    clear hW5 hoth hblk hs5 hz4 KK cf df c8 c9 z8 z9 zf y8 y9 yf c0 c1 c2 c3 c4 c5 c6 c7 c10 d0 d1 d2 d3 d4 d5 d6 d7 d8 d9 d10
    go_wp2_with fail
    have HT : W5.there (w.heap.size + 1) 0 11 := there_of 11 (fun j hj => by
      match j, hj with
      | 0, _ => exact ⟨_, f0⟩
      | 1, _ => exact ⟨_, f1⟩
      | 2, _ => exact ⟨_, f2⟩
      | 3, _ => exact ⟨_, f3⟩
      | 4, _ => exact ⟨_, f4⟩
      | 5, _ => exact ⟨_, f5⟩
      | 6, _ => exact ⟨_, f6⟩
      | 7, _ => exact ⟨_, f7⟩
      | 8, _ => exact ⟨_, f8⟩
      | 9, _ => exact ⟨_, f9⟩
      | 10, _ => exact ⟨_, f10⟩) ff
    have hsz := size_setCells (w.heap.size + 1) (s.cells (.slice a4 n4 q4) (.slice a5 n5 q5) (.slice a6 n6 q6)) 0 W5
    have st : StaysD (Rng (w.heap.size + 2) W5.heap.size) W5 (W5.setCells (w.heap.size + 1) 0 (s.cells (.slice a4 n4 q4) (.slice a5 n5 q5) (.slice a6 n6 q6))) := fun i hi => heap_setCells _ _ _ _ i (by have := hi.1; omega)
    refine bodyPost_ret (v := .agg (s.cells (.slice a4 n4 q4) (.slice a5 n5 q5) (.slice a6 n6 q6)).toArray) (w := W5.setCells (w.heap.size + 1) 0 (s.cells (.slice a4 n4 q4) (.slice a5 n5 q5) (.slice a6 n6 q6))) ?_ rfl ⟨_, _, _, rfl, ?_, ?_, ?_, ?_⟩
    · exact results_cell_mid (P := Try.prog) Try.results41 _ _ (w.heap.size + 1) 0 _ _ rfl (World.rangeAt_setCells_same _ _ _ _ HT) Try.underlying29 rfl esizeSt
    · exact (HFin.out.2.1.stays st).mono (Rng.up (by omega) (by omega))
    · exact (HFin.out.2.2.1.stays st).mono (Rng.up (by omega) (by omega))
    · exact (HFin.out.2.2.2.stays st).mono (Rng.up (by omega) (by omega))
    · exact Below.setCells HFin.out.1 (by omega) _ _

theorem copyStmt_any (s : St) : PCs s := St.ind (fun s hb hl => copyStmt_of s (copyBlock_of s.body hb) (copyBlock_of s.els hl)) s
theorem copyBlock_any (l : List St) : PCb l := copyBlock_of l fun x _ => copyStmt_any x
#print axioms copyBlock_any
end Go.Proofs.Ytoaaikbplnpmmaa
