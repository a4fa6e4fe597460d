/- TextLines: how many lines a text has, and how deep each stands. -/
import Derived.Test.YtkobdephobaopaaGreatDoorXl5
namespace Go.Proofs.YtkobdephobaopaaGreatDoor
open Go.RowKit
open Ps.Pu (printP made_print)
open Ps.Ql (plines put puts goes cnt cnts One)
attribute [local go_sem] run_store_complex

set_option maxRecDepth 100000 in
set_option maxHeartbeats 8000000 in
theorem textLines_row (how : Int) (la lb : List Ac) (va vb : Value) (w : World) (hh1 : -9223372036854775808 ≤ how) (hh2 : how ≤ 9223372036854775807) (ha : ActsR w w.heap.size la va) (hb : ActsR w w.heap.size lb vb) (hE : Env w) :
    Calls Tryz.prog 7 #[.int .i64 how, va, vb] w fun e w' => e = .returned (.bool true) ∧ Kept w w' := by
  have HP : Hid _ := prog_any how la lb [] va vb (.slice none 0 0) 6 w hh1 hh2 ha hb (acts_nil _ _) (by omega) (by omega)
  have HE : Hid (Env w) := hE
  obtain ⟨a1, q1, rfl, x1, x2, -⟩ := ha.out
  obtain ⟨a2, q2, rfl, x3, x4, -⟩ := hb.out
  clear ha hb x1 x2 x3 x4 hE hh1 hh2
  go_enter Tryz.func7, Tryz.ntmps7
  go_wp2_with fail
  refine Calls.mono HP.out ?_
  rintro e w1 ⟨d, t, ad, nd, qd, at', nt, qt, rfl, HM⟩
  obtain ⟨hds, hts, hg, hk⟩ := HM.out
  have hd8 := hg.dl.1
  have ht3 := hg.three
  have ht2 := hg.two
  have HK : Hid (Kept w w1) := hk
  have htne : t ≠ [] := by rintro rfl; simp at ht2
  obtain ⟨wC, pC, lC⟩ := made_print (d := d) (t := t) hg.dl.2 (by omega) hg.ok htne (by omega)
  have hds0 : DsIn w1 0 w1.heap.size d (.slice ad nd qd) := hds.mono fun k hk => ⟨Nat.zero_le _, hk.2⟩
  have hts0 : TsIn w1 0 w1.heap.size t (.slice at' nt qt) := hts.mono fun k hk => ⟨Nat.zero_le _, hk.2⟩
  have ed : nd = d.length := by
    obtain ⟨_, _, ed, -, -, -⟩ := hds0.open
    injection ed
  have et : nt = t.length := by
    obtain ⟨_, _, et, -, -, -⟩ := hts0.open
    injection et
  have hndl : nd ≤ 100 := by omega
  have hntl : nt ≤ 100 := by omega
  have SC : Hid (∀ W, Kept w1 W → Calls Tryz.prog 17 #[.agg #[.slice ad nd qd, .slice at' nt qt]] W fun r w' => r = .returned (.string (Px.ba (Ps.shown d t))) ∧ Kept W w') := fun W hW => by
    have := tprint_any d t W _ _ (hds0.up (Nat.le_refl _) hW) (hts0.up (Nat.le_refl _) hW) wC (HE.out.kept (HK.out.then hW))
    rwa [pC] at this
  have hfl := flatTs_small t fun b hb => (hg.ok b hb).2
  have LI : Hid (∀ W, Kept w1 W → Calls Tryz.prog 23 #[.agg #[.slice ad nd qd, .slice at' nt qt]] W fun r w' => ∃ v', r = .returned v' ∧ StsIn w' 0 w'.heap.size (flatTs t) v' ∧ Kept W w') := fun W hW =>
    rlist_any d t W _ _ (hds0.up (Nat.le_refl _) hW) (hts0.up (Nat.le_refl _) hW) (by omega)
  have LN : Hid (∀ W, Calls Tryz.prog 24 #[.string (Px.ba (Ps.shown d t))] W fun e w' => ∃ (L : List (List UInt8)) (v : Value), e = .returned v ∧ Hid (LnJ (Px.ba (Ps.shown d t)) W w' L v (Px.ba (Ps.shown d t)).size (Px.ba (Ps.shown d t)).size)) := fun W =>
    rlines6_any _ (by rw [Px.ba_size]; omega) (ends_feed htne) W
  have KN : Hid (∀ W, Kept w W → Calls Tryz.prog 16 #[] W fun e w' => e = .returned (.bool true) ∧ Kept W w') := fun W hW => known6_any W (HE.out.kept hW)
  have HGO : Hid (goes (plines d t) 0 0) := Ps.Ql.plines_goes d t hg.dl.2 fun b hb => (hg.ok b hb).1
  have HPUT : Hid (((plines d t).map put).flatten = Ps.shown d t) := by show _ = _; rw [puts_flat]; exact Ps.Ql.plines_put d t fun b hb => (hg.ok b hb).1
  have HLEN : Hid ((plines d t).length = nd + 2 * nt + cnts (flatTs t)) := by show _ = _; rw [Ps.Ql.plines_len d t fun b hb => (hg.ok b hb).1]; omega
  have hfl2 : (flatTs t).length ≤ 48 := by omega
  generalize hF : flatTs t = F at *
  clear hF hds hts hds0 hts0 hg hk HP HM wC pC hd8 ht3 ht2 ed et htne hfl
  have HLC : Hid ((Ps.shown d t).length ≤ 5164) := lC
  clear lC
  have HTS : Hid ((Px.ba (Ps.shown d t)).data.toList = Ps.shown d t) := rfl
  generalize hTS : Px.ba (Ps.shown d t) = TS at *
  clear hTS
  go_wp2_with fail
  refine (SC.out _ ((Kept.refl _).al _)).mono ?_
  rintro e w2 ⟨rfl, k2⟩
  have c0 : w2.cell? ⟨w1.heap.size, 0, none⟩ = some (.slice ad nd qd) := k2.cellS (by simp)
  have c1 : w2.cell? ⟨w1.heap.size, 1, none⟩ = some (.slice at' nt qt) := k2.cellS (by simp)
  have HK2 : Hid (Kept w1 w2) := ((Kept.refl w1).al _).then k2
  clear k2 SC
  have hw0 : IntKind.i64.wrap (2 * (nt : Int)) = 2 * (nt : Int) := by rw [IntKind.wrap_i64]; omega
  have hw1 : IntKind.i64.wrap ((nd : Int) + 2 * (nt : Int)) = (nd : Int) + 2 * (nt : Int) := by rw [IntKind.wrap_i64]; omega
  go_wp2_with fail
  refine (LI.out _ HK2.out).mono ?_
  rintro e w3 ⟨v3, rfl, hst, k3⟩
  obtain ⟨a3, q3, rfl, f1, f2, f3⟩ := hst.open
  have HST : Hid (StsIn w3 0 w3.heap.size F (.slice a3 F.length q3)) := hst
  have HK3 : Hid (Kept w w3) := HK.out.then (HK2.out.then k3)
  clear hst k3 LI c0 c1
  go_wp2_with fail
  go_loopw [9, 37] (fun v i wr => ∃ k : Nat, v = .int .i64 ((nd + 2 * nt + cnts (F.take k) : Nat) : Int) ∧ i = .int .i64 (k : Int) ∧ k ≤ F.length ∧ Hid (Kept w3 wr)) (fun _ i _ => F.length - (intOf i).toNat)
  case atStart => exact ⟨0, by simp [Ps.Ql.cnts], rfl, Nat.zero_le _, Kept.refl _⟩
  case round =>
    obtain ⟨k, rfl, rfl, hk, HB⟩ := hrel
    have hcl := cnts_take_le F k hk
    by_cases hlt : k < F.length
    · have hki : (k : Int) < (F.length : Int) := by omega
      obtain ⟨b, o, a4, n4, q4, a5, n5, q5, a6, n6, q6, rfl, _, hb, _, c0, c1, c2, c3, c4, c5, c6, c7, c8, c9, c10, k1, k2, k3⟩ := HST.out.item (HB.out.stays (Nat.le_refl _)) k hlt
      have hz := HB.out.size
      have hzb : b < wr.heap.size := by omega
      have HES : Hid (n6 = F[k].els.length) := by
        show _ = _
        obtain ⟨_, _, es, -, -, -⟩ := k3.open
        injection es
      have HCT : Hid (cnts (F.take (k + 1)) = cnts (F.take k) + cnt F[k]) := cnts_take F k hlt
      clear k1 k2 k3
      have hwk : IntKind.i64.wrap ((k : Int) + 1) = (k : Int) + 1 := by rw [IntKind.wrap_i64]; omega
      obtain ⟨Q, hQ⟩ : ∃ Q, nd + 2 * nt + cnts (F.take k) = Q := ⟨_, rfl⟩
      have HQ : Hid _ := hQ
      have hQl : Q ≤ 1000 := by omega
      rw [hQ]
      clear hQ hcl
      have hv1 : IntKind.i64.wrap ((Q : Int) + 1) = (Q : Int) + 1 := by rw [IntKind.wrap_i64]; omega
      have hv2 : IntKind.i64.wrap ((Q : Int) + 1 + 1) = (Q : Int) + 1 + 1 := by rw [IntKind.wrap_i64]; omega
      have hv3 : IntKind.i64.wrap ((Q : Int) + 1 + 1 + 1) = (Q : Int) + 1 + 1 + 1 := by rw [IntKind.wrap_i64]; omega
      generalize hx : F[k] = x at *
      have HX : Hid (F[k] = x) := hx
      clear hx

      by_cases hn6 : n6 = 0
      · subst hn6
        have hels : x.els = [] := List.eq_nil_of_length_eq_zero HES.out.symm
        by_cases k7 : x.kind = 7
        · have HCN : Hid (cnt x = 2) := by show Ps.Ql.cnt x = 2; unfold Ps.Ql.cnt; rw [if_pos (.inl k7), if_pos hels]
          have g7 : (x.kind == 7) = true := by rw [k7]; rfl
          clear hels
          go_wp2_with fail
          go_roundw
          case rel => exact ⟨k + 1, by rw [HCT.out, HCN.out]; have := HQ.out; first | (congr 1; omega) | (go_num; omega), by go_num, by omega, HB.out.al _⟩
          case measure => simp [intOf]; omega
        · by_cases k8 : x.kind = 8
          · have HCN : Hid (cnt x = 2) := by show Ps.Ql.cnt x = 2; unfold Ps.Ql.cnt; rw [if_pos (.inr k8), if_pos hels]
            have g7 : (x.kind == 7) = false := by rw [k8]; rfl
            have g8 : (x.kind == 8) = true := by rw [k8]; rfl
            clear hels
            go_wp2_with fail
            go_roundw
            case rel => exact ⟨k + 1, by rw [HCT.out, HCN.out]; have := HQ.out; first | (congr 1; omega) | (go_num; omega), by go_num, by omega, HB.out.al _⟩
            case measure => simp [intOf]; omega
          · have HCN : Hid (cnt x = 1) := by show Ps.Ql.cnt x = 1; unfold Ps.Ql.cnt; rw [if_neg (by omega), if_pos hels]
            have g7 : (x.kind == 7) = false := ne_int k7
            have g8 : (x.kind == 8) = false := ne_int k8
            clear hels
            go_wp2_with fail
            go_roundw
            case rel => exact ⟨k + 1, by rw [HCT.out, HCN.out]; have := HQ.out; first | (congr 1; omega) | (go_num; omega), by go_num, by omega, HB.out.al _⟩
            case measure => simp [intOf]; omega
      · have hpos : (0 : Int) < (n6 : Int) := by omega
        have hels : ¬ x.els = [] := by intro e; rw [e] at HES; exact hn6 HES.out
        by_cases k7 : x.kind = 7
        · have HCN : Hid (cnt x = 3) := by show Ps.Ql.cnt x = 3; unfold Ps.Ql.cnt; rw [if_pos (.inl k7), if_neg hels]
          have g7 : (x.kind == 7) = true := by rw [k7]; rfl
          clear hels
          go_wp2_with fail
          go_roundw
          case rel => exact ⟨k + 1, by rw [HCT.out, HCN.out]; have := HQ.out; first | (congr 1; omega) | (go_num; omega), by go_num, by omega, HB.out.al _⟩
          case measure => simp [intOf]; omega
        · by_cases k8 : x.kind = 8
          · have HCN : Hid (cnt x = 3) := by show Ps.Ql.cnt x = 3; unfold Ps.Ql.cnt; rw [if_pos (.inr k8), if_neg hels]
            have g7 : (x.kind == 7) = false := by rw [k8]; rfl
            have g8 : (x.kind == 8) = true := by rw [k8]; rfl
            clear hels
            go_wp2_with fail
            go_roundw
            case rel => exact ⟨k + 1, by rw [HCT.out, HCN.out]; have := HQ.out; first | (congr 1; omega) | (go_num; omega), by go_num, by omega, HB.out.al _⟩
            case measure => simp [intOf]; omega
          · have HCN : Hid (cnt x = 2) := by show Ps.Ql.cnt x = 2; unfold Ps.Ql.cnt; rw [if_neg (by omega), if_neg hels]
            have g7 : (x.kind == 7) = false := ne_int k7
            have g8 : (x.kind == 8) = false := ne_int k8
            clear hels
            go_wp2_with fail
            go_roundw
            case rel => exact ⟨k + 1, by rw [HCT.out, HCN.out]; have := HQ.out; first | (congr 1; omega) | (go_num; omega), by go_num, by omega, HB.out.al _⟩
            case measure => simp [intOf]; omega

    · have hki : ¬ (k : Int) < (F.length : Int) := by omega
      obtain ⟨Q, hQ⟩ : ∃ Q, nd + 2 * nt + cnts (F.take k) = Q := ⟨_, rfl⟩
      have HQ : Hid ((plines d t).length = Q) := by show _ = _; rw [HLEN.out, ← hQ, List.take_of_length_le (by omega)]
      rw [hQ]
      clear hQ hcl
      obtain ⟨w5, hw5⟩ : ∃ W, W = wr := ⟨_, rfl⟩
      subst hw5
      go_wp2_with fail
      refine (LN.out _).mono ?_
      rintro e w6 ⟨L, v6, rfl, HL⟩
      obtain ⟨a6, q6, rfl⟩ := line_len6 HL.out
      have HLL : Hid (L = (plines d t).map put) := by
        show _ = _
        refine Ps.fed1_uniq _ _ HL.out.fed (puts_fed (goes_one _ _ _ HGO.out)) ?_
        rw [HPUT.out, HL.out.flat, HTS.out]
        exact List.take_of_length_le (by have : TS.data.toList.length = TS.size := Array.length_toList; rw [HTS.out] at this; omega)
      have HLQ : Hid (L.length = Q) := by show _ = _; rw [HLL.out, List.length_map]; exact HQ.out
      have HK6 : Hid (Kept w w6) := HK3.out.then (HB.out.then HL.out.kept)
      have hQl : L.length ≤ 6000 := by have := HL.out.few; have h2 : TS.data.toList.length = TS.size := Array.length_toList; rw [HTS.out] at h2; have := HLC.out; omega
      clear LN hki hk HB
      go_wp2_with fail
      go_loopw [13, 64] (fun v i wr => ∃ (k : Nat) (dp : Int), v = .int .i64 dp ∧ i = .int .i64 (k : Int) ∧ k ≤ L.length ∧ Hid (goes ((plines d t).drop k) dp 0) ∧ w6 = wr) (fun _ i _ => L.length - (intOf i).toNat)
      case atStart => exact ⟨0, 0, rfl, rfl, Nat.zero_le _, HGO, rfl⟩
      case round =>
        obtain ⟨k, dp, rfl, rfl, hk, HG, rfl⟩ := hrel
        by_cases hlt : k < L.length
        · have hki : (k : Int) < (L.length : Int) := by omega
          obtain ⟨b, rfl, hzb, cb⟩ := line_cell6 HL.out k hlt
          have hlp : k < (plines d t).length := by rw [HQ.out, ← HLQ.out]; exact hlt
          obtain ⟨g1, g2, g3⟩ := goes_drop _ k hlp _ _ HG.out
          have HG3 : Hid _ := g3
          have G2 : Hid (((plines d t)[k].1 : Int) = if (plines d t)[k].2.head? = some 125 then dp - 1 else dp) := g2
          clear g2
          have hel : L[k] = put ((plines d t)[k].1, (plines d t)[k].2) := by
            have h1 : L[k]? = ((plines d t).map put)[k]? := by rw [HLL.out]
            rw [List.getElem?_eq_getElem hlt, List.getElem?_map, List.getElem?_eq_getElem hlp] at h1
            simpa using h1
          have HOK := line_ok (plines d t)[k].1 (plines d t)[k].2 g1
          rw [hel] at cb
          have hXl : (Px.ba (put ((plines d t)[k].1, (plines d t)[k].2))).size ≤ 6000 := by
            rw [Px.ba_size, ← hel]
            have h1 : L[k].length ≤ L.flatten.length := flat_mem L _ (List.getElem_mem hlt)
            rw [HL.out.flat, List.length_take] at h1
            have h2 : TS.data.toList.length = TS.size := Array.length_toList
            rw [HTS.out] at h2 h1
            have := HLC.out
            omega
          generalize (plines d t)[k].1 = dn at *
          generalize (plines d t)[k].2 = y at *
          generalize Px.ba (put (dn, y)) = X at *
          generalize Px.ba (y ++ [10]) = Z at *
          generalize y.length = N at *
          generalize N - 1 = M at *
          obtain ⟨o1, o2, o3, o4, o4z, o5, o6, o7, o8, o9, o10, o11⟩ := HOK
          have HO6 : Hid (Z.size = N + 1 ∧ M + 1 = N) := ⟨o6, o7⟩
          have HO2 : Hid (∀ j (h : j < dn), (((X[j]'(by omega)).toNat : Int) == 9) = true) := o2
          have hz1 : IntKind.i64.wrap ((Z.size : Int) - 1) = (N : Int) := by rw [IntKind.wrap_i64]; omega
          have hz2 : IntKind.i64.wrap ((Z.size : Int) - 2) = (M : Int) := by rw [IntKind.wrap_i64]; omega
          have hp0 : 0 < Z.size := by omega
          have hp0i : (0 : Int) < (Z.size : Int) := by omega
          have hp1 : (1 : Int) < (Z.size : Int) := by
            have : y ≠ [] := g1.ne
            omega
          have hpM : M < Z.size := by omega
          have hpNi : (N : Int) < (Z.size : Int) := by omega
          have hpMi : (M : Int) < (Z.size : Int) := by omega
          have hdnl : dn ≤ 6000 := by omega
          have hdni : (dn : Int) < (X.size : Int) := by omega
          have hsl : ∀ wx, (Instr.slice 9 (.string X) (some (.int .i64 (dn : Int))) none none).run Tryz.prog wx = .ok (.string Z) wx := fun wx => by
            have := run_slice_string_l (P := Tryz.prog) wx 9 X Tryz.underlying9 .i64 (dn : Int) (by omega) (by omega)
            rw [this, Int.toNat_natCast, o4]
          have hwk : IntKind.i64.wrap ((k : Int) + 1) = (k : Int) + 1 := by rw [IntKind.wrap_i64]; omega
          have p9 : (((Z[0]'hp0).toNat : Int) == 125) = decide (y.head? = some 125) := o9
          have p11 : (((Z[M]'hpM).toNat : Int) == 123) = decide (y.getLast? = some 123) := o11
          clear o9 o11
          clear o2 o4 o4z o6 o7 hel g3 HG hlp
          go_wp2_with fail
          go_loopw [17] (fun v wr => ∃ j : Nat, v = .int .i64 (j : Int) ∧ j ≤ dn ∧ w6 = wr) (fun v _ => dn - (intOf v).toNat)
          case atStart => exact ⟨0, rfl, Nat.zero_le _, rfl⟩
          case round =>
            obtain ⟨j, rfl, hj, rfl⟩ := hrel
            have hjx : j < X.size := by omega
            have hji : (j : Int) < (X.size : Int) := by omega
            by_cases hjl : j < dn
            · have t9 := HO2.out j hjl
              have hwj : IntKind.i64.wrap ((j : Int) + 1) = (j : Int) + 1 := by rw [IntKind.wrap_i64]; omega
              go_wp2_with fail
              go_roundw
              case rel => exact ⟨j + 1, by go_num, by omega, by simp⟩
              case measure => simp [intOf]; omega
            · obtain rfl : j = dn := by omega
              by_cases hbb : y.head? = some 125
              · obtain rfl : dp = (j : Int) + 1 := by
                  have := G2.out
                  rw [if_pos hbb] at this
                  omega
                rw [decide_eq_true hbb] at p9
                have hwd : IntKind.i64.wrap ((j : Int) + 1 - 1) = (j : Int) := by rw [IntKind.wrap_i64]; omega
                have hwd' : IntKind.i64.wrap (j : Int) = (j : Int) := by rw [IntKind.wrap_i64]; omega
                have hwe : IntKind.i64.wrap ((j : Int) + 1) = (j : Int) + 1 := by rw [IntKind.wrap_i64]; omega
                by_cases hcc : y.getLast? = some 123
                · rw [decide_eq_true hcc] at p11
                  have HS : Hid (goes ((plines d t).drop (k + 1)) ((j : Int) + 1) 0) := by
                    have := HG3.out
                    unfold Ps.Ql.step at this
                    rw [if_pos hbb, if_pos hcc] at this
                    rwa [show (j : Int) + 1 - 1 + 1 = (j : Int) + 1 by omega] at this
                  go_wp2_with fail
                  go_roundw
                  case rel => exact ⟨k + 1, (j : Int) + 1, by go_num, by go_num, by omega, HS, by simp⟩
                  case measure => simp [intOf]; omega
                · rw [decide_eq_false hcc] at p11
                  have HS : Hid (goes ((plines d t).drop (k + 1)) (j : Int) 0) := by
                    have := HG3.out
                    unfold Ps.Ql.step at this
                    rw [if_pos hbb, if_neg hcc] at this
                    rwa [show (j : Int) + 1 - 1 + 0 = (j : Int) by omega] at this
                  go_wp2_with fail
                  go_roundw
                  case rel => exact ⟨k + 1, (j : Int), by go_num, by go_num, by omega, HS, by simp⟩
                  case measure => simp [intOf]; omega
              · obtain rfl : dp = (j : Int) := by
                  have := G2.out
                  rw [if_neg hbb] at this
                  omega
                rw [decide_eq_false hbb] at p9
                have hwe : IntKind.i64.wrap ((j : Int) + 1) = (j : Int) + 1 := by rw [IntKind.wrap_i64]; omega
                by_cases hcc : y.getLast? = some 123
                · rw [decide_eq_true hcc] at p11
                  have HS : Hid (goes ((plines d t).drop (k + 1)) ((j : Int) + 1) 0) := by
                    have := HG3.out
                    unfold Ps.Ql.step at this
                    rwa [if_neg hbb, if_pos hcc] at this
                  go_wp2_with fail
                  go_roundw
                  case rel => exact ⟨k + 1, (j : Int) + 1, by go_num, by go_num, by omega, HS, by simp⟩
                  case measure => simp [intOf]; omega
                · rw [decide_eq_false hcc] at p11
                  have HS : Hid (goes ((plines d t).drop (k + 1)) (j : Int) 0) := by
                    have := HG3.out
                    unfold Ps.Ql.step at this
                    rw [if_neg hbb, if_neg hcc] at this
                    rwa [show (j : Int) + 0 = (j : Int) by omega] at this
                  go_wp2_with fail
                  go_roundw
                  case rel => exact ⟨k + 1, (j : Int), by go_num, by go_num, by omega, HS, by simp⟩
                  case measure => simp [intOf]; omega
        · have hki : ¬ (k : Int) < (L.length : Int) := by omega
          have hd0 : dp = 0 := by
            have := HG.out
            rw [List.drop_eq_nil_of_le (by rw [HQ.out, ← HLQ.out]; omega), Ps.Ql.goes] at this
            exact this
          subst hd0
          have hLQ : ((L.length : Int) == (Q : Int)) = true := by rw [HLQ.out]; simp
          go_wp2_with fail
          refine (KN.out _ HK6.out).mono ?_
          rintro e w7 ⟨rfl, k7⟩
          have HF : Hid (Kept w w7) := HK6.out.then k7
          clear k7
          go_wp2_with fail
          go_ret
          exact ⟨rfl, HF.out⟩
#print axioms textLines_row
end Go.Proofs.YtkobdephobaopaaGreatDoor
