/- TreeOwn. -/
import Derived.Test.YtoaaikbplnpmmaaOf
import Derived.Test.YtoaaikbplnpmmaaTu
import Derived.Deep.RegionHeld3
import Derived.Deep.DeepCutAuto
namespace Go.Proofs.Ytoaaikbplnpmmaa
open Go.RowKit
attribute [local go_sem] run_store_complex
attribute [local go_sem ↓] cut_b cut_t

theorem ActsR.nil (w : World) (hi : Nat) : ActsR w hi [] (.slice none 0 0) := ⟨none, 0, rfl, Nat.le_refl _, by omega, fun i h => by simp at h, fun x h => by cases h⟩

theorem stepSum_le (l : List St) : stepSum l ≤ l.length := by
  induction l with
  | nil => simp [stepSum]
  | cons a l ih => rw [stepSum, List.length_cons]; unfold St.step; omega
theorem stepSum_low (l : List St) (h : 0 ≤ stepSum l) (k : Nat) : -(l.length : Int) ≤ stepSum (l.take k) ∧ stepSum (l.take k) ≤ l.length := by
  have h1 := stepSum_le (l.drop k)
  have h2 := stepSum_le (l.take k)
  have h3 : stepSum l = stepSum (l.take k) + stepSum (l.drop k) := by rw [← stepSum_append, List.take_append_drop]
  rw [List.length_drop] at h1
  rw [List.length_take] at h2
  omega


set_option maxRecDepth 100000 in
set_option maxHeartbeats 4000000 in
theorem treeOwn_any (how : Int) (la lb : List Ac) (am : Int) (va vb : Value) (w : World) (hh1 : -9223372036854775808 ≤ how) (hh2 : how ≤ 9223372036854775807) (_hm1 : -9223372036854775808 ≤ am) (_hm2 : am ≤ 9223372036854775807) (ha : ActsR w w.heap.size la va) (hb : ActsR w w.heap.size lb vb) :
    Calls Try.prog 5 #[.int .i64 how, va, vb, .int .i64 am] w fun r w' => r = .returned (.bool true) ∧ Kept w w' := by
  have PP : Hid _ := prog_any how la lb [] va vb (.slice none 0 0) 6 w hh1 hh2 ha hb (ActsR.nil _ _) (by omega) (by omega)
  obtain ⟨a1, q1, rfl, -⟩ := ha.out
  obtain ⟨a2, q2, rfl, -⟩ := hb.out
  clear ha hb hh1 hh2
  go_enter Try.func5, Try.ntmps5
  go_wp2_with fail
  refine Calls.mono PP.out ?_
  rintro r w1 ⟨d, t, ad, nd, qd, at', nt, qt, rfl, HP⟩
  clear PP
  obtain ⟨W1, hW1⟩ : ∃ W1, w1.alloc (.cells #[.slice ad nd qd, .slice at' nt qt] 33) = W1 := ⟨_, rfl⟩
  have HW1 : Hid (Kept w1 W1 ∧ W1.heap.size = w1.heap.size + 1) := by rw [← hW1]; exact ⟨(Kept.refl _).al _, by simp⟩
  have b0 : W1.cell? ⟨w1.heap.size, 0, none⟩ = some (.slice ad nd qd) := by rw [← hW1]; simp
  have b1 : W1.cell? ⟨w1.heap.size, 1, none⟩ = some (.slice at' nt qt) := by rw [← hW1]; simp
  have HU : Hid (∀ W, Kept W1 W → DsIn W 0 W.heap.size d (.slice ad nd qd) ∧ TsIn W 0 W.heap.size t (.slice at' nt qt)) := fun W hW => ⟨HP.out.1.up (Nat.le_refl _) (HW1.out.1.then hW), HP.out.2.1.up (Nat.le_refl _) (HW1.out.1.then hW)⟩
  have HG : Hid (GoodP d t 6) := HP.out.2.2.1
  have HB : Hid ((flatTs t).length ≤ 48 ∧ ∀ x ∈ t, St.wts x ≤ 1073741824) := ⟨HG.out.flat, HG.out.wts⟩
  have hKW : Hid (Kept w W1) := HP.out.2.2.2.then HW1.out.1
  have h2t : Hid (t.length = 2) := HG.out.just (by omega)
  have PC : Hid (Calls Try.prog 11 #[.agg #[.slice ad nd qd, .slice at' nt qt]] W1 fun r w' => ∃ a5 n5 q5 a6 n6 q6 M, r = .returned (.agg #[.slice a5 n5 q5, .slice a6 n6 q6]) ∧ Hid (W1.heap.size ≤ M ∧ M ≤ w'.heap.size ∧ TsIn w' W1.heap.size M t (.slice a6 n6 q6) ∧ DsIn w' M w'.heap.size d (.slice a5 n5 q5) ∧ Kept W1 w')) := by
    have hu := HU.out W1 (Kept.refl _)
    refine (copy_any d t W1 _ _ hu.1 hu.2 (by have := HG.out.dl.1; omega) (by have := HG.out.three; omega) HB.out.2).mono ?_
    rintro r w' ⟨dv', tv', M, rfl, m1, m2, h1, h2, h3⟩
    obtain ⟨a, cap, rfl, -⟩ := h2.open
    obtain ⟨a', cap', rfl, -⟩ := h1.open
    exact ⟨_, _, _, _, _, _, M, rfl, m1, m2, h1, h2, h3⟩
  obtain ⟨N, hN⟩ : ∃ N, (flatTs t).length = N := ⟨_, rfl⟩
  have HN : Hid ((flatTs t).length = N ∧ N ≤ 48) := ⟨hN, by rw [← hN]; exact HB.out.1⟩
  have PL : Hid (∀ W, Kept W1 W → Calls Try.prog 8 #[.agg #[.slice ad nd qd, .slice at' nt qt]] W fun r w' => ∃ a4 q4, r = .returned (.slice a4 N q4) ∧ Hid (StsIn w' W.heap.size w'.heap.size (flatTs t) (.slice a4 N q4) ∧ Kept W w')) := fun W hW => by
    refine (list_any d t W _ _ (HU.out W hW).1 (HU.out W hW).2 (by have := HB.out.1; omega) HB.out.2).mono ?_
    rintro r w' ⟨v', rfl, h1, h2⟩
    obtain ⟨a4, q4, rfl, -⟩ := h1.open
    rw [hN] at h1 ⊢
    exact ⟨a4, q4, rfl, h1, h2⟩
  have hN48 : N ≤ 48 := HN.out.2
  clear hN
  go_wp2_with fail
  clear hW1
  refine Calls.mono PC.out ?_
  rintro r w2 ⟨a5, n5, q5, a6, n6, q6, M, rfl, HC⟩
  clear PC
  have c0 := HC.out.2.2.2.2.cellS b0
  have c1 := HC.out.2.2.2.2.cellS b1
  have hz2 : w1.heap.size < w2.heap.size := block_lt_of_cell c0
  obtain ⟨W2, hW2⟩ : ∃ W2, w2.alloc (.cells #[.slice a5 n5 q5, .slice a6 n6 q6] 33) = W2 := ⟨_, rfl⟩
  have HW2 : Hid (Kept w2 W2 ∧ W2.heap.size = w2.heap.size + 1) := by rw [← hW2]; exact ⟨(Kept.refl _).al _, by simp⟩
  have d0 : W2.cell? ⟨w2.heap.size, 0, none⟩ = some (.slice a5 n5 q5) := by rw [← hW2]; simp
  have d1 : W2.cell? ⟨w2.heap.size, 1, none⟩ = some (.slice a6 n6 q6) := by rw [← hW2]; simp
  have e0 := HW2.out.1.cellS c0
  have e1 := HW2.out.1.cellS c1
  have HK2 : Hid (Kept W1 W2) := HC.out.2.2.2.2.then HW2.out.1
  clear c0 c1
  go_wp2_with fail
  clear hW2
  refine (PL.out _ HK2.out).mono ?_
  rintro r w3 ⟨a4, q4, rfl, HL⟩
  have e03 := HL.out.2.cellS e0
  have e13 := HL.out.2.cellS e1
  have d03 := HL.out.2.cellS d0
  have d13 := HL.out.2.cellS d1
  go_wp2_with fail
  refine (known_any _).mono ?_
  rintro r w4 ⟨rfl, k4⟩
  have HK4 : Hid (Kept w3 w4) := k4
  have e04 := k4.cellS e03
  have e14 := k4.cellS e13
  have d04 := k4.cellS d03
  have d14 := k4.cellS d13
  clear k4 e0 e1 d0 d1 e03 e13 d03 d13 b0 b1
  have HK24 : Hid (Kept W2 w4) := HL.out.2.then HK4.out
  have PS : Hid (Calls Try.prog 13 #[.agg #[.slice ad nd qd, .slice at' nt qt], .agg #[.slice a5 n5 q5, .slice a6 n6 q6]] w4 fun r w' => r = .returned (.bool true) ∧ Hid (Kept w4 w')) := by
    have hu := HU.out w4 (HK2.out.then HK24.out)
    have hd := HC.out.2.2.2.1.up (Nat.le_refl _) (HW2.out.1.then HK24.out)
    have ht := HC.out.2.2.1.up HC.out.2.1 (HW2.out.1.then HK24.out)
    refine (same_any d d t t w4 _ _ _ _ hu.1 hu.2 hd ht).mono ?_
    rintro r w' ⟨rfl, h⟩
    rw [Dc.sames_refl, sameTs_refl]
    exact ⟨rfl, h⟩
  go_wp2_with fail
  refine Calls.mono PS.out ?_
  rintro r w5 ⟨rfl, HK5⟩
  have e05 := HK5.out.cellS e04
  have e15 := HK5.out.cellS e14
  have d05 := HK5.out.cellS d04
  have d15 := HK5.out.cellS d14
  have HK25 : Hid (Kept w2 w5) := HW2.out.1.then (HK24.out.then HK5.out)
  clear PS e04 e14 d04 d14
  have h0t : 0 < t.length := by have := h2t.out; omega
  obtain ⟨b6, o6, a7, n7, q7, rfl, hb6, hb6', hf6, s6, k7⟩ := HC.out.2.2.1.item (HK25.out.stays HC.out.2.1) 0 h0t
  rw [Nat.add_zero] at s6
  obtain rfl : n6 = 2 := by
    obtain ⟨a, cap, e, -⟩ := HC.out.2.2.1.open
    cases e
    exact h2t.out
  have HT0 : Hid (StsIn w5 W1.heap.size M t[0] (.slice a7 n7 q7)) := k7
  clear k7
  have hlen0 : Hid (t[0].length = n7 ∧ n7 ≤ q7 ∧ n7 ≤ 16) := by
    obtain ⟨a, cap, e, h1, h2, h3⟩ := HT0.out.open
    cases e
    have hs := (HG.out.ok t[0] (List.getElem_mem h0t)).2
    have hl := St.sizes_len t[0]
    exact ⟨rfl, h2, by omega⟩
  have HKW5 : Hid (Kept w w5) := hKW.out.then (HC.out.2.2.2.2.then HK25.out)
  by_cases hn7 : n7 = 0
  · have g0 : ((n7 : Int) == 0) = true := by rw [hn7]; rfl
    clear hn7
    go_wp2_with fail
    go_ret
    exact ⟨rfl, HKW5.out⟩
  have g0 : ((n7 : Int) == 0) = false := by rw [beq_eq_false_iff_ne]; omega
  obtain ⟨I, hI, -, hpk⟩ := pick_nat am n7 (by omega) (by have := hlen0.out.2.2; omega)
  have PK : Hid (∀ w, Calls Try.prog 23 #[.int .i64 am, .int .i64 (n7 : Int)] w fun e w' => e = .returned (.int .i64 (I : Int)) ∧ w' = w) := hpk
  have hIi : (I : Int) < (n7 : Int) := by omega
  have hIt : I < t[0].length := by have := hlen0.out.1; omega
  clear hpk
  obtain ⟨b7, o7, e1, f1, g1, e2, f2, g2, e3, f3, g3, rfl, hb7, hb7', hf7, y0, y1, -, -, -, -, -, y7, y8, -, -, kE, kB, -⟩ := HT0.out.item (StaysD.refl _ _) I hIt
  have HX : Hid (OwnX (Rng W1.heap.size M) w5 b7 (o7 + I * 11) e1 f1 g1 e2 f2 g2 w5) := by
    refine ⟨Off.of (Kept.refl _), hf7, y7, y8, fun i hi => ?_, fun i hi => ?_⟩
    · have hl : i < t[0][I].e.of.length := by
        obtain ⟨a, cap, e, -⟩ := kE.open
        cases e; exact hi
      obtain ⟨b, o, _, _, _, r1, r2, r3, r4, -⟩ := kE.itemD i hl
      exact ⟨b, o, _, r1, r2, r3, r4⟩
    · have hl : i < t[0][I].body.length := by
        obtain ⟨a, cap, e, -⟩ := kB.open
        cases e; exact hi
      obtain ⟨b, o, _, _, _, _, _, _, _, _, _, r1, r2, r3, r4, -⟩ := kB.itemD i hl
      exact ⟨b, o, _, r1, r2, r3, r4⟩
  have HY : Hid (w5.cell? ⟨b7, o7 + I * 11, none⟩ = some (.int .i64 t[0][I].kind) ∧ w5.cell? ⟨b7, o7 + I * 11 + 1, none⟩ = some (.string t[0][I].name)) := ⟨y0, y1⟩
  have hff : f1 ≤ 9223372036854775807 ∧ f2 ≤ 9223372036854775807 := by
    obtain ⟨a, cap, e, h1, -⟩ := kE.open
    obtain ⟨a', cap', e', h1', -⟩ := kB.open
    cases e; cases e'
    exact ⟨h1, h1'⟩
  obtain ⟨hff1, hff2⟩ := hff
  clear y0 y1 y7 y8 kE kB hf7
  have SS : Hid (∀ w', Kept w5 w' → Hid (Kept w5 w') ∧ w'.cell? ⟨w2.heap.size, 1, none⟩ = some (.slice (some ⟨b6, o6, none⟩) 2 q6) ∧ w'.cell? ⟨b6, o6, none⟩ = some (.slice (some ⟨b7, o7, none⟩) n7 q7)) := fun w' KK => ⟨KK, KK.cellS d15, KK.cellS s6⟩
  go_upto_region 8 with fail
  go_cut [12] (fun p wc => p = .pointer (some ⟨b7, o7 + I * 11, none⟩) ∧ Hid (Kept w5 wc))
  case first =>
    go_region_held3 (fun w' => Hid (Kept w5 w') ∧ w'.cell? ⟨w2.heap.size, 1, none⟩ = some (.slice (some ⟨b6, o6, none⟩) 2 q6) ∧ w'.cell? ⟨b6, o6, none⟩ = some (.slice (some ⟨b7, o7, none⟩) n7 q7))
      (first
        | exact SS.out _ ((Kept.refl w5).dr))
      ((go_at_call 23; refine (PK.out _).mono ?_; rintro e w8 ⟨rfl, rfl⟩))
    all_goals
      rename_i hH
      clear hH
      go_wp2_with fail
      go_meet
      case rel => exact ⟨rfl, (Kept.refl w5).dr⟩
  case rest =>
    obtain ⟨rfl, HKc⟩ := hcut
    clear SS PK
    have HXc : Hid (OwnX (Rng W1.heap.size M) w5 b7 (o7 + I * 11) e1 f1 g1 e2 f2 g2 wc) := HX.out.kept HKc.out
    have x0 := HKc.out.cellS HY.out.1
    have x1 := HKc.out.cellS HY.out.2
    have x7 := HXc.out.y7
    have xf := HXc.out.fz
    have HX2 : Hid (OwnX (Rng W1.heap.size M) w5 b7 (o7 + I * 11) e1 f1 g1 e2 f2 g2 ((wc.setCell ⟨b7, o7 + I * 11, none⟩ (.int .i64 10)).setCell ⟨b7, o7 + I * 11 + 1, none⟩ (.string ⟨#[111, 116, 104, 101, 114]⟩))) :=
      (HXc.out.setInt ⟨hb7, hb7'⟩ x0 10).setStr ⟨hb7, hb7'⟩ ((World.cell?_setCell_other _ _ _ _ (by simp)).trans x1) _
    go_wp2_with fail
    obtain ⟨X2, hX2⟩ : ∃ X2, ((wc.setCell ⟨b7, o7 + I * 11, none⟩ (.int .i64 10)).setCell ⟨b7, o7 + I * 11 + 1, none⟩ (.string ⟨#[111, 116, 104, 101, 114]⟩)) = X2 := ⟨_, rfl⟩
    rw [hX2] at HX2 ⊢
    clear hX2 x0 x1 x7 xf HXc HY
    go_loopw [64] (fun i wr => ∃ k : Nat, i = .int .i64 (k : Int) ∧ k ≤ f1 ∧ Hid (OwnX (Rng W1.heap.size M) w5 b7 (o7 + I * 11) e1 f1 g1 e2 f2 g2 wr)) (fun i _ => f1 - (intOf i).toNat)
    case atStart => exact ⟨0, rfl, Nat.zero_le _, HX2⟩
    case round =>
      obtain ⟨k, rfl, hk, HO⟩ := hrel
      have y7 := HO.out.y7
      by_cases hlt : k < f1
      · have hki : (k : Int) < (f1 : Int) := by omega
        obtain ⟨bE, oE, z, rfl, hDE, hfE, cE⟩ := HO.out.ex k hlt
        have HN2 : Hid _ := HO.out.setInt hDE cE (-1)
        go_wp2_with fail
        go_roundw
        case rel => exact ⟨k + 1, by go_num, by omega, HN2⟩
        case measure => simp [intOf]; omega
      · have hki : ¬ (k : Int) < (f1 : Int) := by omega
        have y8 := HO.out.y8
        go_wp2_with fail
        obtain ⟨X3, hX3⟩ : ∃ X3, X3 = wr := ⟨_, rfl⟩
        subst hX3
        go_loopw [81] (fun i wr => ∃ k : Nat, i = .int .i64 (k : Int) ∧ k ≤ f2 ∧ Hid (OwnX (Rng W1.heap.size M) w5 b7 (o7 + I * 11) e1 f1 g1 e2 f2 g2 wr)) (fun i _ => f2 - (intOf i).toNat)
        case atStart => exact ⟨0, rfl, Nat.zero_le _, HO⟩
        case round =>
          clear y7 y8
          obtain ⟨k2, rfl, hk2, HO2⟩ := hrel
          have y8 := HO2.out.y8
          by_cases hlt2 : k2 < f2
          · have hki2 : (k2 : Int) < (f2 : Int) := by omega
            obtain ⟨bE, oE, z, rfl, hDE, hfE, cE⟩ := HO2.out.bo k2 hlt2
            have HN2 : Hid _ := HO2.out.setInt hDE cE (-1)
            go_wp2_with fail
            go_roundw
            case rel => exact ⟨k2 + 1, by go_num, by omega, HN2⟩
            case measure => simp [intOf]; omega
          · have hki2 : ¬ (k2 : Int) < (f2 : Int) := by omega
            have hoff := HO2.out.off
            have hzM := HC.out.2.1
            have h2z := HW2.out.2
            have q0 := hoff.cell d05 (fun h => by have := h.2; omega)
            have q1' := hoff.cell d15 (fun h => by have := h.2; omega)
            have p0 := hoff.cell e05 (fun h => by have := h.1; have := HW1.out.2; omega)
            have p1 := hoff.cell e15 (fun h => by have := h.1; have := HW1.out.2; omega)
            have h8 : 0 < d.length := by have := HG.out.dl.1; omega
            have HD5 : DsIn wr M w2.heap.size d (.slice a5 n5 q5) := (HC.out.2.2.2.1.stays (HK25.out.stays (Nat.le_refl _))).stays (hoff.stays fun i hi => ⟨by have := HK25.out.size; have := hi.2; omega, fun h => by have := h.2; have := hi.1; omega⟩)
            obtain ⟨bD, oD, rfl, hbD, hbD', hfD, -, cD, -⟩ := HD5.item (StaysD.refl _ _) 0 h8
            obtain rfl : n5 = 8 := by
              obtain ⟨a, cap, e, -⟩ := HD5.open
              cases e
              exact HG.out.dl.1
            rw [Nat.zero_mul, Nat.add_zero] at cD
            clear y8
            have hne1 : bD ≠ w1.heap.size := by have := HC.out.1; have := HW1.out.2; omega
            have hne2 : bD ≠ w2.heap.size := by omega
            obtain ⟨X4, hX4⟩ : ∃ X4, wr.setCell ⟨bD, oD + 1, none⟩ (.string ⟨#[111, 116, 104, 101, 114]⟩) = X4 := ⟨_, rfl⟩
            have p04 : X4.cell? ⟨w1.heap.size, 0, none⟩ = some (.slice ad nd qd) := by rw [← hX4]; exact (World.cell?_setCell_other _ _ _ _ (by simp)).trans p0
            have p14 : X4.cell? ⟨w1.heap.size, 1, none⟩ = some (.slice at' nt qt) := by rw [← hX4]; exact (World.cell?_setCell_other _ _ _ _ (by simp)).trans p1
            go_wp2_with fail
            clear p0 p1
            have HF : Hid (Off (Rng W1.heap.size w2.heap.size) w5 X4) := by
              rw [← hX4]
              refine Off.set (D := Rng W1.heap.size w2.heap.size) ⟨hoff.os, hoff.tape, hoff.output, hoff.size, fun k hk hn => hoff.block k hk (fun h => hn ⟨h.1, Nat.lt_of_lt_of_le h.2 hzM⟩)⟩ ⟨by have := HC.out.1; omega, hbD'⟩ _ _
            have HK15 : Hid (Kept W1 w5) := HC.out.2.2.2.2.then HK25.out
            have HKX : Hid (Kept W1 X4) := HF.out.kept HK15.out (fun i hi => hi.1)
            have HWX : Hid (Kept w X4) := hKW.out.then HKX.out
            have q04 : X4.cell? ⟨w2.heap.size, 0, none⟩ = some (.slice (some ⟨bD, oD, none⟩) 8 q5) := by rw [← hX4]; exact (World.cell?_setCell_other _ _ _ _ (by simp)).trans q0
            have q14 : X4.cell? ⟨w2.heap.size, 1, none⟩ = some (.slice (some ⟨b6, o6, none⟩) 2 q6) := by rw [← hX4]; exact (World.cell?_setCell_other _ _ _ _ (by simp)).trans q1'
            have HDX : Hid (DsIn X4 0 X4.heap.size (d.set 0 { d[0] with name := ⟨#[111, 116, 104, 101, 114]⟩ }) (.slice (some ⟨bD, oD, none⟩) 8 q5)) := by
              have hsz := HF.out.size
              have hsz2 := HK25.out.size
              rw [← hX4] at hsz ⊢
              exact (HD5.other h8 _).mono (Rng.up (Nat.zero_le _) (by omega))
            have HLX : Hid (StsIn X4 0 X4.heap.size (flatTs t) (.slice a4 N q4)) := by
              have hsz := HF.out.size
              have hsz2 := (HK4.out.then HK5.out).size
              refine ((HL.out.1.stays ((HK4.out.then HK5.out).stays (Nat.le_refl _))).stays (HF.out.stays fun i hi => ⟨by have := hi.2; omega, fun h => by have := hi.1; have := h.2; omega⟩)).mono (Rng.up (Nat.zero_le _) (by omega))
            clear hoff q0 q1' HD5 cD hX4 HF HK15 HO HO2 HX2 HX d05 d15 e05 e15 s6 hf6 hfD
            refine (PL.out _ HKX.out).mono ?_
            rintro r w6 ⟨a8, q8, rfl, HM⟩
            have HK6 : Hid (Kept X4 w6) := HM.out.2
            have p06 := HK6.out.cellS p04
            have p16 := HK6.out.cellS p14
            have q06 := HK6.out.cellS q04
            have q16 := HK6.out.cellS q14
            have PS2 : Hid (Calls Try.prog 13 #[.agg #[.slice ad nd qd, .slice at' nt qt], .agg #[.slice (some ⟨bD, oD, none⟩) 8 q5, .slice (some ⟨b6, o6, none⟩) 2 q6]] w6 fun r w' => r = .returned (.bool false) ∧ Hid (Kept w6 w')) := by
              have hu := HU.out w6 (HKX.out.then HK6.out)
              refine (same_decl_false d _ w6 _ _ _ _ _ _ _ _ hu.1 (HDX.out.up (Nat.le_refl _) HK6.out) (Dc.sames_other d h8 (by obtain ⟨_, _, h⟩ := HG.out.dl; exact h))).mono ?_
              rintro r w' ⟨rfl, h⟩
              exact ⟨rfl, h⟩
            have eN : ((N : Int) != (N : Int)) = false := by simp
            clear p04 p14 q04 q14
            go_wp2_with fail
            refine Calls.mono PS2.out ?_
            rintro r w7 ⟨rfl, HK7⟩
            have p17 := HK7.out.cellS p16
            have HK67 : Hid (Kept X4 w7) := HK6.out.then HK7.out
            have HL7 : Hid (StsIn w7 0 w7.heap.size (flatTs t) (.slice a4 N q4) ∧ StsIn w7 0 w7.heap.size (flatTs t) (.slice a8 N q8)) := ⟨HLX.out.up (Nat.le_refl _) HK67.out, HM.out.1.up (Nat.le_refl _) HK7.out⟩
            have HT7 : Hid (TsIn w7 0 w7.heap.size t (.slice at' nt qt)) := (HU.out w7 (HKX.out.then HK67.out)).2
            have HW7 : Hid (Kept w w7) := HWX.out.then HK67.out
            clear p06 p16 q06 q16 PS2 HM HK6 HK7 HLX HDX PL HU HK67 HWX HKX
            have HZ : Hid (∀ k, -48 ≤ stepSum ((flatTs t).take k) ∧ stepSum ((flatTs t).take k) ≤ 48) := fun k => by
              obtain ⟨_, _, h⟩ := stepSum_ts t h2t.out
              have h1 := stepSum_low (flatTs t) (by omega) k
              have := HN.out
              omega
            go_wp2_with fail
            go_loopw [16, 110] (fun n i wr => ∃ k : Nat, n = .int .i64 (stepSum ((flatTs t).take k)) ∧ i = .int .i64 (k : Int) ∧ k ≤ N ∧ Hid (Kept w7 wr)) (fun _ i _ => N - (intOf i).toNat)
            case atStart => exact ⟨0, rfl, rfl, Nat.zero_le _, Kept.refl _⟩
            case round =>
              obtain ⟨J, rfl, rfl, hJ, HJ⟩ := hrel
              obtain ⟨z, hz⟩ : ∃ z, stepSum ((flatTs t).take J) = z := ⟨_, rfl⟩
              have hzb := HZ.out J
              rw [hz] at hzb ⊢
              by_cases hlt : J < N
              · have hJi : (J : Int) < (N : Int) := by omega
                have hJf : J < (flatTs t).length := by have := HN.out.1; omega
                have hJ4 : (J : Int) + 1 ≤ (q4 : Int) := by
                  obtain ⟨a, q, e, h1, h2, h3⟩ := HL7.out.1.open
                  cases e
                  omega
                have hJ5 : (J : Int) + 1 ≤ (q8 : Int) := by
                  obtain ⟨a, q, e, h1, h2, h3⟩ := HL7.out.2.open
                  cases e
                  omega
                obtain ⟨x, hx⟩ : ∃ x, (flatTs t)[J] = x := ⟨_, rfl⟩
                have hgood := (HG.out.item x (by rw [← hx]; exact List.getElem_mem _)).1
                obtain ⟨b4, o4, A1, F1, G1, A2, F2, G2, A3, F3, G3, rfl, _, hb4, _, y0, -, -, -, -, -, -, -, y8, y9, -, -, k2, k3⟩ := (HL7.out.1.up (Nat.le_refl _) HJ.out).item (StaysD.refl _ _) J hJf
                rw [hx] at y0 k2 k3
                have hF2 : x.body.length = F2 := by
                  obtain ⟨a, q, e, -⟩ := k2.open
                  cases e
                  rfl
                have hF3 : x.els.length = F3 := by
                  obtain ⟨a, q, e, -⟩ := k3.open
                  cases e
                  rfl
                have hst : stepSum ((flatTs t).take (J + 1)) = z + 1 - (F2 : Int) - (F3 : Int) := by
                  rw [stepSum_take _ _ hJf, hz, hx, St.step, hF2, hF3]; omega
                have hzb2 := HZ.out (J + 1)
                rw [hst] at hzb2
                have PSB : Hid (∀ W, Kept wr W → Calls Try.prog 18 #[.slice (cutAt (some ⟨b4, o4, none⟩) J q4 11) 1 (q4 - J), .slice (cutAt a8 J q8 11) 1 (q8 - J)] W fun r w' => r = .returned (.bool true) ∧ Hid (Kept wr w')) := fun W hW => by
                  refine (rsameBlock_any _ _ W _ _ ((HL7.out.1.cut1 J hJf).up (Nat.le_refl _) (HJ.out.then hW)) ((HL7.out.2.cut1 J hJf).up (Nat.le_refl _) (HJ.out.then hW))).mono ?_
                  rintro r w' ⟨rfl, h⟩
                  rw [St.sames_refl]
                  exact ⟨rfl, hW.then h⟩
                have SS : Hid (∀ w', Kept wr w' → Hid (Kept wr w') ∧ w'.cell? ⟨b4, o4 + J * 11, none⟩ = some (.int .i64 x.kind)) := fun w' KK => ⟨KK, KK.cellS y0⟩
                have hwJ1 : IntKind.i64.wrap ((J : Int) + 1) = (J : Int) + 1 := wrap_nat (J + 1) (by omega)
                have hw1 : IntKind.i64.wrap (z + 1) = z + 1 := by rw [IntKind.wrap_i64]; omega
                have hw2 : IntKind.i64.wrap (z + 1 - (F2 : Int)) = z + 1 - (F2 : Int) := by rw [IntKind.wrap_i64]; omega
                have hw3 : IntKind.i64.wrap (z + 1 - (F2 : Int) - (F3 : Int)) = z + 1 - (F2 : Int) - (F3 : Int) := by rw [IntKind.wrap_i64]; omega
                have hkn : decide (x.kind < 0) = false := by rw [decide_eq_false_iff_not]; omega
                have hNq : N ≤ 9223372036854775807 := by omega
                clear hzb hzb2 hF2 hF3 k2 k3 hgood hx hJf
                go_wp2_with fail
                go_region_held3 (fun w' => Hid (Kept wr w') ∧ w'.cell? ⟨b4, o4 + J * 11, none⟩ = some (.int .i64 x.kind))
                  (first
                    | exact SS.out _ h2.out
                    | exact SS.out _ ((Kept.refl wr).dr))
                  ((go_at_call 18; refine (PSB.out _ ((Kept.refl wr).dr)).mono ?_; rintro e v2 ⟨rfl, h2⟩))
                all_goals
                  rename_i hH
                  clear hH
                  have HJ2 : Hid (Kept w7 v2) := HJ.out.then h2.out
                  have z8 := h2.out.cellS y8
                  have z9 := h2.out.cellS y9
                  clear PSB SS h2 y0 y8 y9
                  go_wp2_with fail
                  have SS : Hid (∀ w', Kept v2 w' → w'.cell? ⟨b4, o4 + J * 11 + 8, none⟩ = some (.slice A2 F2 G2) ∧ w'.cell? ⟨b4, o4 + J * 11 + 9, none⟩ = some (.slice A3 F3 G3)) := fun w' KK => ⟨KK.cellS z8, KK.cellS z9⟩
                  go_region_held3 (fun w' => w'.cell? ⟨b4, o4 + J * 11 + 8, none⟩ = some (.slice A2 F2 G2) ∧ w'.cell? ⟨b4, o4 + J * 11 + 9, none⟩ = some (.slice A3 F3 G3))
                    (first
                      | exact SS.out _ ((Kept.refl v2).dr))
                    (fail)
                  all_goals
                    rename_i hH
                    clear hH SS
                    have HJ3 : Hid (Kept w7 v2.drew) := HJ2.out.dr
                    go_wp2_with fail
                    go_roundw
                    case rel => exact ⟨J + 1, by rw [hst], by go_num, by omega, HJ3⟩
                    case measure => simp [intOf]; omega
              · have hJi : ¬ (J : Int) < (N : Int) := by omega
                obtain rfl : J = N := by omega
                have h1t : 1 < t.length := by have := h2t.out; omega
                have hzt : z = (t[0].length : Int) + (t[1].length : Int) := by
                  obtain ⟨_, _, h⟩ := stepSum_ts t h2t.out
                  rw [← hz, ← HN.out.1, List.take_length]
                  exact h
                obtain ⟨b9, o9, A1, F1, G1, rfl, _, _, _, y0, k0⟩ := (HT7.out.up (Nat.le_refl _) HJ.out).item (StaysD.refl _ _) 0 h0t
                obtain ⟨b9', o9', A2, F2, G2, e9, _, _, _, y1, k1⟩ := (HT7.out.up (Nat.le_refl _) HJ.out).item (StaysD.refl _ _) 1 h1t
                cases e9
                rw [Nat.add_zero] at y0
                obtain rfl : nt = 2 := by
                  obtain ⟨a, cap, e, -⟩ := HT7.out.open
                  cases e
                  exact h2t.out
                have hF1 : t[0].length = F1 := by
                  obtain ⟨a, q, e, -⟩ := k0.open
                  cases e
                  rfl
                have hF2 : t[1].length = F2 := by
                  obtain ⟨a, q, e, -⟩ := k1.open
                  cases e
                  rfl
                rw [hF1, hF2] at hzt
                have hw1 : IntKind.i64.wrap ((F1 : Int) + (F2 : Int)) = (F1 : Int) + (F2 : Int) := by rw [IntKind.wrap_i64]; omega
                have p1r := HJ.out.cellS p17
                have HWr : Hid (Kept w wr) := HW7.out.then HJ.out
                have SS : Hid (∀ w', Kept wr w' → w'.cell? ⟨w1.heap.size, 1, none⟩ = some (.slice (some ⟨b9, o9, none⟩) 2 qt) ∧ w'.cell? ⟨b9, o9, none⟩ = some (.slice A1 F1 G1) ∧ w'.cell? ⟨b9, o9 + 1, none⟩ = some (.slice A2 F2 G2)) := fun w' KK => ⟨KK.cellS p1r, KK.cellS y0, KK.cellS y1⟩
                subst hzt
                have hzz : (((F1 : Int) + (F2 : Int)) == ((F1 : Int) + (F2 : Int))) = true := by simp
                go_wp2_with fail
                go_region_held3 (fun w' => w'.cell? ⟨w1.heap.size, 1, none⟩ = some (.slice (some ⟨b9, o9, none⟩) 2 qt) ∧ w'.cell? ⟨b9, o9, none⟩ = some (.slice A1 F1 G1) ∧ w'.cell? ⟨b9, o9 + 1, none⟩ = some (.slice A2 F2 G2))
                  (first
                    | exact SS.out _ ((Kept.refl wr).dr))
                  (fail)
                all_goals
                  rename_i hH
                  clear hH SS
                  go_wp2_with fail
                  go_ret
                  exact ⟨rfl, HWr.out.dr⟩
#print axioms treeOwn_any
end Go.Proofs.Ytoaaikbplnpmmaa
