/- TreeThreads. -/
import Derived.Test.YtoaaikbplnpmmaaLw
import Derived.Deep.RegionHeld3
namespace Go.Proofs.Ytoaaikbplnpmmaa
open Go.RowKit
attribute [local go_sem] run_store_complex
attribute [local go_sem ↓] cut_b cut_t

set_option maxRecDepth 100000 in
set_option maxHeartbeats 2000000 in
theorem treeThreads_any (how : Int) (la lb lc : List Ac) (va vb vc : Value) (w : World) (hh1 : -9223372036854775808 ≤ how) (hh2 : how ≤ 9223372036854775807) (ha : ActsR w w.heap.size la va) (hb : ActsR w w.heap.size lb vb) (hc : ActsR w w.heap.size lc vc) :
    Calls Try.prog 6 #[.int .i64 how, va, vb, vc] w fun r w' => r = .returned (.bool true) ∧ Kept w w' := by
  have PP : Hid _ := prog_any how la lb lc va vb vc 4 w hh1 hh2 ha hb hc (by omega) (by omega)
  obtain ⟨a1, q1, rfl, -⟩ := ha.out
  obtain ⟨a2, q2, rfl, -⟩ := hb.out
  obtain ⟨a3, q3, rfl, -⟩ := hc.out
  clear ha hb hc hh1 hh2
  go_enter Try.func6, Try.ntmps6
  go_wp2_with fail
  refine Calls.mono PP.out ?_
  rintro r w1 ⟨d, t, ad, nd, qd, at', nt, qt, rfl, HP⟩
  clear PP
  obtain ⟨W1, hW1⟩ : ∃ W1, w1.alloc (.cells #[.slice ad nd qd, .slice at' nt qt] 33) = W1 := ⟨_, rfl⟩
  have HW1 : Hid (Kept w1 W1 ∧ W1.heap.size = w1.heap.size + 1) := by rw [← hW1]; exact ⟨(Kept.refl _).al _, by simp⟩
  have b0 : W1.cell? ⟨w1.heap.size, 0, none⟩ = some (.slice ad nd qd) := by rw [← hW1]; simp
  have b1 : W1.cell? ⟨w1.heap.size, 1, none⟩ = some (.slice at' nt qt) := by rw [← hW1]; simp
  have HU : Hid (∀ W, Kept W1 W → DsIn W 0 W.heap.size d (.slice ad nd qd) ∧ TsIn W 0 W.heap.size t (.slice at' nt qt)) := fun W hW => ⟨HP.out.1.up (Nat.le_refl _) (HW1.out.1.then hW), HP.out.2.1.up (Nat.le_refl _) (HW1.out.1.then hW)⟩
  have HG : Hid (GoodP d t 4) := HP.out.2.2.1
  have HB : Hid ((flatTs t).length ≤ 48 ∧ ∀ x ∈ t, St.wts x ≤ 1073741824) := ⟨HG.out.flat, HG.out.wts⟩
  have PL : Hid (∀ W, Kept W1 W → Calls Try.prog 8 #[.agg #[.slice ad nd qd, .slice at' nt qt]] W fun r w' => ∃ a4 q4, r = .returned (.slice a4 (flatTs t).length q4) ∧ Hid (StsIn w' W.heap.size w'.heap.size (flatTs t) (.slice a4 (flatTs t).length q4) ∧ Kept W w')) := fun W hW => by
    refine (list_any d t W _ _ (HU.out W hW).1 (HU.out W hW).2 (by have := HB.out.1; omega) HB.out.2).mono ?_
    rintro r w' ⟨v', rfl, h1, h2⟩
    obtain ⟨a4, q4, rfl, -⟩ := h1.open
    exact ⟨a4, q4, rfl, h1, h2⟩
  have PT : Hid (∀ W, Kept W1 W → Calls Try.prog 9 #[.agg #[.slice ad nd qd, .slice at' nt qt]] W fun r w' => ∃ a5 q5, r = .returned (.slice a5 (flatTs t).length q5) ∧ Hid (ValsD w' (Rng W.heap.size w'.heap.size) (thrs 0 t) (.slice a5 (flatTs t).length q5) ∧ Kept W w')) := fun W hW => by
    refine (threads_any d t W _ _ (HU.out W hW).1 (HU.out W hW).2 (by have := HB.out.1; omega) HB.out.2).mono ?_
    rintro r w' ⟨v', rfl, h1, h2⟩
    obtain ⟨a5, q5, rfl, -⟩ := h1.open
    rw [thrs_len] at h1 ⊢
    exact ⟨a5, q5, rfl, h1, h2⟩
  have hKW : Hid (Kept w W1) := HP.out.2.2.2.then HW1.out.1
  have HLT : Hid (t.length = nt ∧ nt ≤ qt ∧ qt ≤ 9223372036854775807) := by
    obtain ⟨a, q, e, h1, h2, h3⟩ := HP.out.2.1.open
    cases e
    exact ⟨rfl, h2, h3⟩
  obtain ⟨N, hN⟩ : ∃ N, (flatTs t).length = N := ⟨_, rfl⟩
  rw [hN] at PL PT
  have HN : Hid ((flatTs t).length = N ∧ N ≤ 48) := ⟨hN, by rw [← hN]; exact HB.out.1⟩
  have hN48 : N ≤ 48 := HN.out.2
  clear hN
  go_wp2_with fail
  clear hW1
  refine (PL.out _ (Kept.refl W1)).mono ?_
  rintro r w2 ⟨a4, q4, rfl, HL⟩
  have b02 := HL.out.2.cellS b0
  have b12 := HL.out.2.cellS b1
  go_wp2_with fail
  refine (PT.out _ HL.out.2).mono ?_
  rintro r w3 ⟨a5, q5, rfl, HT⟩
  go_wp2_with fail
  refine (known_any _).mono ?_
  rintro r w4 ⟨rfl, k4⟩
  have HK4 : Hid (Kept w3 w4) := k4
  have HK14 : Hid (Kept W1 w4) := HL.out.2.then (HT.out.2.then k4)
  have b04 := HK14.out.cellS b0
  have b14 := HK14.out.cellS b1
  have HLs : Hid (StsIn w4 0 w4.heap.size (flatTs t) (.slice a4 N q4)) := HL.out.1.up (Nat.le_refl _) (HT.out.2.then k4)
  have HTs : Hid (ValsD w4 (Rng 0 w4.heap.size) (thrs 0 t) (.slice a5 N q5)) := (HT.out.1.stays (k4.stays (Nat.le_refl _))).mono (Rng.up (Nat.zero_le _) k4.size)
  clear b0 b1 b02 b12 k4 HL HT PT
  have eN : ((N : Int) != (N : Int)) = false := by simp
  go_wp2_with fail
  go_loopw [12, 38] (fun av i wr => ∃ (k A : Nat), av = .int .i64 (A : Int) ∧ i = .int .i64 (k : Int) ∧ k ≤ nt ∧ Hid (A = (flatTs (t.take k)).length ∧ Kept w4 wr)) (fun _ i _ => nt - (intOf i).toNat)
  case atStart => exact ⟨0, 0, rfl, rfl, Nat.zero_le _, rfl, Kept.refl _⟩
  case round =>
    obtain ⟨wo, hwo⟩ : ∃ wo, wo = wr := ⟨_, rfl⟩
    subst hwo
    obtain ⟨k, A, rfl, rfl, hk, HI⟩ := hrel
    have o0 := HI.out.2.cellS b04
    have o1 := HI.out.2.cellS b14
    have hzo : w1.heap.size < wo.heap.size := block_lt_of_cell o1
    have hqt := HLT.out.2.2
    have hntq := HLT.out.2.1
    by_cases hlt : k < nt
    · have hki : (k : Int) < (nt : Int) := by omega
      have hk1 : (k : Int) + 1 ≤ (qt : Int) := by omega
      have hkt : k < t.length := by have := HLT.out.1; omega
      obtain ⟨M, hM⟩ : ∃ M, (St.flats t[k]).length = M := ⟨_, rfl⟩
      have hst := flatTs_step t k hkt
      have hle := flatTs_take_len t (k + 1)
      have HA : Hid (A + M ≤ N ∧ (flatTs (t.take (k + 1))).length = A + M ∧ (St.flats t[k]).length = M) := by
        have h1 := HI.out.1
        have h2 := HN.out.1
        refine ⟨by omega, by omega, hM⟩
      have hAM : A + M ≤ N := HA.out.1
      have PL1 : Hid (∀ W, Kept w4 W → Calls Try.prog 8 #[.agg #[.slice ad nd qd, .slice (cutAt at' k qt 1) 1 (qt - k)]] W fun r w' => ∃ a6 q6, r = .returned (.slice a6 M q6) ∧ Hid (StsIn w' W.heap.size w'.heap.size (St.flats t[k]) (.slice a6 M q6) ∧ Kept W w' ∧ M ≤ q6)) := fun W hW => by
        have hu := HU.out W (HK14.out.then hW)
        refine (list_any d [t[k]] W _ _ hu.1 (hu.2.cut1 k hkt) (by rw [flatTs_one]; omega) (fun x hx => by obtain rfl : x = t[k] := (by simpa using hx); exact HB.out.2 _ (List.getElem_mem hkt))).mono ?_
        rintro r w' ⟨v', rfl, h1, h2⟩
        rw [flatTs_one] at h1
        obtain ⟨a6, q6, rfl, h3, h4, h5⟩ := h1.open
        rw [hM] at h1 h4 ⊢
        exact ⟨a6, q6, rfl, h1, h2, h4⟩
      clear hst hle hM
      go_wp2_with fail
      refine (PL1.out _ (HI.out.2.al _)).mono ?_
      rintro r w6 ⟨a6, q6, rfl, HM⟩
      have HK6 : Hid (Kept wo w6 ∧ Kept w4 w6) := ⟨((Kept.refl wo).al _).then HM.out.2.1, (HI.out.2.al _).then HM.out.2.1⟩
      have hMq := HM.out.2.2
      clear PL1 o0 o1
      go_wp2_with fail
      go_loopw [53] (fun i wr => ∃ j : Nat, i = .int .i64 (j : Int) ∧ j ≤ M ∧ Hid (Kept w6 wr)) (fun i _ => M - (intOf i).toNat)
      case atStart => exact ⟨0, rfl, Nat.zero_le _, Kept.refl _⟩
      case round =>
        obtain ⟨j, rfl, hj, HJ⟩ := hrel
        by_cases hjM : j < M
        · have hji : (j : Int) < (M : Int) := by omega
          obtain ⟨J, hJ⟩ : ∃ J, A + j = J := ⟨_, rfl⟩
          have hAJ : (A : Int) + (j : Int) = (J : Int) := by omega
          have hJN : J < N := by omega
          have hJi : (J : Int) < (N : Int) := by omega
          have hJ1 : (J : Int) + 1 ≤ (q4 : Int) := by
            obtain ⟨a, q, e, h1, h2, h3⟩ := HLs.out.open
            cases e
            have := HN.out.1
            omega
          have hj1 : (j : Int) + 1 ≤ (q6 : Int) := by omega
          obtain ⟨e1, e2⟩ := flatTs_get t k j hkt (by have := HA.out.2.2; omega)
          obtain ⟨e3, e4⟩ := thrs_get t k j hkt (by have := HA.out.2.2; omega)
          have hAe := HI.out.1
          obtain ⟨b5, o5, rfl, -, c5⟩ := HTs.out.itemD _ e3
          rw [e4] at c5
          have hoff : (flatTs (t.take k)).length + j = J := by omega
          simp only [hoff] at c5 e2
          have c5' := (HK6.out.2.then HJ.out).cellS c5
          have PSB : Hid (∀ W, Kept wr W → Calls Try.prog 18 #[.slice (cutAt a6 j q6 11) 1 (q6 - j), .slice (cutAt a4 J q4 11) 1 (q4 - J)] W fun r w' => r = .returned (.bool true) ∧ Hid (Kept wr w')) := fun W hW => by
            have h1 := (HM.out.1.cut1 j (by have := HA.out.2.2; omega)).up (Nat.le_refl _) (HJ.out.then hW)
            have h2 := (HLs.out.cut1 J (by have := HN.out.1; omega)).up (Nat.le_refl _) (HK6.out.2.then (HJ.out.then hW))
            refine (rsameBlock_any _ _ W _ _ h1 h2).mono ?_
            rintro r w' ⟨rfl, h⟩
            rw [e2, St.sames_refl]
            exact ⟨rfl, hW.then h⟩
          have SS : Hid (∀ w', Kept wr w' → Hid (Kept wr w') ∧ w'.cell? ⟨b5, o5 + J, none⟩ = some (.int .i64 (k : Int))) := fun w' KK => ⟨KK, KK.cellS c5'⟩
          have ekk : ((k : Int) != (k : Int)) = false := by simp
          have gJN : decide (N ≤ J) = false := decide_eq_false (by omega)
          have hwJ : IntKind.i64.wrap (J : Int) = (J : Int) := wrap_nat J (by omega)
          have hwJ1 : IntKind.i64.wrap ((J : Int) + 1) = (J : Int) + 1 := wrap_nat (J + 1) (by omega)
          have hwj1 : IntKind.i64.wrap ((j : Int) + 1) = (j : Int) + 1 := wrap_nat (j + 1) (by omega)
          clear e1 e2 e3 e4 hAe hoff c5 hJ
          go_wp2_with fail
          go_region_held3 (fun w' => Hid (Kept wr w') ∧ w'.cell? ⟨b5, o5 + J, none⟩ = some (.int .i64 (k : Int)))
            (first
              | exact SS.out _ hk1.out
              | exact SS.out _ ((Kept.refl wr).dr))
            ((go_at_call 18; refine (PSB.out _ ((Kept.refl wr).dr)).mono ?_; rintro e w7 ⟨rfl, hk1⟩))
          all_goals
            rename_i hH
            clear hH
            have HJ2 : Hid (Kept w6 w7) := HJ.out.then hk1.out
            go_wp2_with fail
            go_roundw
            case rel => exact ⟨j + 1, by go_num, by omega, HJ2⟩
            case measure => simp [intOf]; omega
        · have hji : ¬ (j : Int) < (M : Int) := by omega
          have HJ2 : Hid (Kept w4 wr) := HK6.out.2.then HJ.out
          have HAA : Hid _ := HA.out.2.1
          go_wp2_with fail
          go_roundw
          case rel => exact ⟨k + 1, A + M, by go_num, by go_num, by omega, HAA.out.symm, HJ2.out⟩
          case measure => simp [intOf]; omega
    · have hki : ¬ (k : Int) < (nt : Int) := by omega
      have hAN : A = N := by
        have h1 := HI.out.1
        rw [List.take_of_length_le (by have := HLT.out.1; omega)] at h1
        exact h1.trans HN.out.1
      have eAN : ((A : Int) == (N : Int)) = true := by rw [hAN]; simp
      clear hAN
      go_wp2_with fail
      go_ret
      exact ⟨rfl, hKW.out.then (HK14.out.then HI.out.2)⟩
#print axioms treeThreads_any
end Go.Proofs.Ytoaaikbplnpmmaa
