/- Jv -/
import Derived.Test.YtbfikeegacapjaaOJo
import Derived.Test.YtbfikeegacapjaaOJd
import Derived.Test.YtbfikeegacapjaaOJwi
import Derived.Test.YtbfikeegacapjaaORt9
import Derived.Deep.RegionHeld3
import Derived.Deep.LoopGhost

namespace Go.Proofs.Ytbfikeegacapjaa
open Go.RowKit Jf
attribute [local go_sem] run_store_complex
/-- What Check tells as its error. -/
def jerr (r : Option (Nat × Nat)) : Int := if r.isNone then 0 else 4
def jx (r : Option (Nat × Nat)) : Nat := (r.getD (0, 0)).1
def jy (r : Option (Nat × Nat)) : Nat := (r.getD (0, 0)).2
theorem told_jerr (r : Option (Nat × Nat)) : Jf.told r = .tuple #[.complex .f64 (jx r) (jy r), .int .i64 (jerr r)] := by
  cases r with
  | none => rfl
  | some p => obtain ⟨x, y⟩ := p; rfl
theorem jerr_two (r : Option (Nat × Nat)) : (jerr r = 0 ∧ r = none) ∨ jerr r = 4 := by
  unfold jerr; cases r <;> simp
/-- What the law asks of each statement. -/
theorem jout (t : List (List St)) (k : Nat) (hk : k < (flatTs t).length) : (starg (spt t 0 0) (k : Int) < 0 ∧ (chk (spt t 0 0) = none → (flatTs t)[k].kind ≠ 9)) ∨ ∃ j : Nat, ∃ hj : j < (flatTs t).length, starg (spt t 0 0) (k : Int) = (j : Int) ∧ k < j ∧ (flatTs t)[k].kind = 9 ∧ (flatTs t)[j].kind = 10 ∧ (flatTs t)[j].name = (flatTs t)[k].name ∧ (∃ v : Int, (thrs 0 t)[j]? = some (.int .i64 v) ∧ (thrs 0 t)[k]? = some (.int .i64 v)) ∧ ∀ q, ∀ hq : q < (flatTs t).length, q < j → j + 1 ≤ q + (flatTs t)[q].size → q < k := by
  have hal : (allA t 0 0 0).length = (flatTs t).length := by rw [all_len, tsz_flat]
  have hka : k < (allA t 0 0 0).length := by omega
  by_cases h0 : 0 ≤ starg (spt t 0 0) (k : Int)
  · right
    obtain ⟨j, hj, h1, h2, h3, h4, h5, h6, h7⟩ := goes_to t k hka h0
    have hjf : j < (flatTs t).length := by omega
    have htl := thrs_len 0 t
    refine ⟨j, hjf, h1, h2, by rw [← s_at t k hka hk]; exact h3, by rw [← s_at t j hj hjf]; exact h4, by rw [← s_at t k hka hk, ← s_at t j hj hjf]; exact h5, ⟨((allA t 0 0 0)[k].thr : Int), ?_, ?_⟩, fun q hq hqj hs => h7 q (by omega) hqj (by rw [s_at t q (by omega) hq]; exact hs)⟩
    · rw [List.getElem?_eq_getElem (by omega), thr_at t j hj (by omega), h6]
    · rw [List.getElem?_eq_getElem (by omega), thr_at t k hka (by omega)]
  · exact .inl ⟨by omega, fun hc h9 => h0 (right_goes t hc k hka (by rw [s_at t k hka hk]; exact h9))⟩
set_option maxRecDepth 100000 in
set_option maxHeartbeats 2000000 in
theorem jumpsOut_row (l : List Int) (lv : Value) (w : World) (hl : IntsR w w.heap.size l lv) (hb : l.length ≤ 17592186044416) : Calls Try.prog 6 #[lv] w fun e w' => e = .returned (.bool true) ∧ Kept w w' := by
  have DP : Hid _ := deep_any l w lv hl hb
  obtain ⟨la, lcap, rfl, -⟩ := hl.out
  have KN : Hid (∀ W, Calls Try.prog 18 #[] W fun e w' => e = .returned (.bool true) ∧ Kept W w') := fun W => known9_any W
  clear hl hb
  go_enter Try.func6, Try.ntmps6
  go_wp2_with fail
  refine Calls.mono DP.out ?_
  rintro e w1 ⟨d, t, a1, n1, q1, a2, n2, q2, rfl, H⟩
  have HR : Hid (RdP w w1 d t (.slice a1 n1 q1) (.slice a2 n2 q2)) := H
  have HD1 : Hid (DsIn w1 0 w1.heap.size d (.slice a1 n1 q1)) := H.out.ds.mono fun j hj => ⟨Nat.zero_le _, hj.2⟩
  have HT1 : Hid (TsIn w1 0 w1.heap.size t (.slice a2 n2 q2)) := H.out.ts.mono fun j hj => ⟨Nat.zero_le _, hj.2⟩
  have HFL : Hid ((flatTs t).length ≤ 20000) := by have := H.out.sz; have := tsz_flat t; show _ ≤ _; omega
  have CK : Hid (∀ W, Kept w1 W → Calls Try.prog 15 #[.agg #[.slice a1 n1 q1, .slice a2 n2 q2]] W fun e w' => e = .returned (.tuple #[.complex .f64 (jx (chk (spt t 0 0))) (jy (chk (spt t 0 0))), .int .i64 (jerr (chk (spt t 0 0)))]) ∧ Kept W w') := fun W hW => by
    have h := jcheck_any d t W _ _ (HD1.out.up (Nat.le_refl _) hW) (HT1.out.up (Nat.le_refl _) hW) (by have := HR.out.sz; omega) (fun s hs => by have := HR.out.nm s hs; unfold maxLen; omega)
    rw [told_jerr] at h; exact h
  have LS : Hid (∀ W, Kept w1 W → Calls Try.prog 22 #[.agg #[.slice a1 n1 q1, .slice a2 n2 q2]] W fun r w' => ∃ (a3 : Option Addr) (q3 : Nat), r = .returned (.slice a3 (flatTs t).length q3) ∧ Hid (StsIn w' 0 w'.heap.size (flatTs t) (.slice a3 (flatTs t).length q3) ∧ Kept W w')) := fun W hW => (rlist_any d t W _ _ (HD1.out.up (Nat.le_refl _) hW) (HT1.out.up (Nat.le_refl _) hW) (by have := HFL.out; omega)).mono fun r w' ⟨v, e, h1, h2⟩ => by
    obtain ⟨a3, q3, rfl, -⟩ := h1.open
    exact ⟨a3, q3, e, h1, h2⟩
  have TH : Hid (∀ W, Kept w1 W → Calls Try.prog 24 #[.agg #[.slice a1 n1 q1, .slice a2 n2 q2]] W fun r w' => ∃ (a4 : Option Addr) (q4 : Nat), r = .returned (.slice a4 (flatTs t).length q4) ∧ Hid (ValsD w' (Rng W.heap.size w'.heap.size) (thrs 0 t) (.slice a4 (flatTs t).length q4) ∧ Kept W w')) := fun W hW => (rthreads_any d t W _ _ (HD1.out.up (Nat.le_refl _) hW) (HT1.out.up (Nat.le_refl _) hW) (by have := HFL.out; omega)).mono fun r w' ⟨v, e, h1, h2⟩ => by
    obtain ⟨a4, q4, rfl, -⟩ := h1.open
    rw [thrs_len] at *
    exact ⟨a4, q4, e, h1, h2⟩
  have TG : Hid (∀ (k : Nat) (W : World), Kept w1 W → Calls Try.prog 19 #[.agg #[.slice a1 n1 q1, .slice a2 n2 q2], .int .i64 (k : Int)] W fun e w' => e = .returned (.int .i64 (starg (spt t 0 0) (k : Int))) ∧ Kept W w') := fun k W hW => Target_any d t k W _ _ (HD1.out.up (Nat.le_refl _) hW) (HT1.out.up (Nat.le_refl _) hW) (by have := HR.out.sz; omega)
  have JO : Hid (∀ k (hk : k < (flatTs t).length), _) := fun k hk => jout t k hk
  have HJE : Hid ((jerr (chk (spt t 0 0)) = 0 ∧ chk (spt t 0 0) = none) ∨ jerr (chk (spt t 0 0)) = 4) := jerr_two _
  have K1 : Hid (Kept w w1) := H.out.kept
  obtain ⟨X0, hX0⟩ : ∃ X, jx (chk (spt t 0 0)) = X := ⟨_, rfl⟩
  obtain ⟨Y0, hY0⟩ : ∃ Y, jy (chk (spt t 0 0)) = Y := ⟨_, rfl⟩
  obtain ⟨E0, hE0⟩ : ∃ E, jerr (chk (spt t 0 0)) = E := ⟨_, rfl⟩
  rw [hX0, hY0, hE0] at CK
  rw [hE0] at HJE
  obtain ⟨F, hF⟩ : ∃ F, flatTs t = F := ⟨_, rfl⟩
  rw [hF] at LS TH HFL
  have JO2 : Hid (∀ k (hk : k < F.length), (starg (spt t 0 0) (k : Int) < 0 ∧ (chk (spt t 0 0) = none → F[k].kind ≠ 9)) ∨ ∃ j : Nat, ∃ hj : j < F.length, starg (spt t 0 0) (k : Int) = (j : Int) ∧ k < j ∧ F[k].kind = 9 ∧ F[j].kind = 10 ∧ F[j].name = F[k].name ∧ (∃ v : Int, (thrs 0 t)[j]? = some (.int .i64 v) ∧ (thrs 0 t)[k]? = some (.int .i64 v)) ∧ ∀ q, ∀ hq : q < F.length, q < j → j + 1 ≤ q + F[q].size → q < k) := by subst hF; exact fun k hk => jout t k hk
  have HSZ : Hid (∀ q (hq : q < F.length), F[q].size ≤ 20000 ∧ 1 ≤ F[q].size) := by
    subst hF
    intro q hq
    have hal : (allA t 0 0 0).length = (flatTs t).length := by rw [all_len, tsz_flat]
    have hi := inT t 0 0 0 _ (List.getElem_mem (show q < (allA t 0 0 0).length by omega))
    have h1 := hi.hi
    rw [s_at t q (by omega) hq] at h1
    have := HR.out.sz
    exact ⟨by omega, St.size_pos _⟩
  clear DP H HR hX0 hY0 hE0 hF JO
  go_wp2_with fail
  obtain ⟨W1, hW1⟩ : ∃ W, w1.alloc (.cells #[.slice a1 n1 q1, .slice a2 n2 q2] 27) = W := ⟨_, rfl⟩
  obtain ⟨P, hP⟩ : ∃ P, w1.heap.size = P := ⟨_, rfl⟩
  have K11 : Hid (Kept w1 W1) := by rw [← hW1]; exact (Kept.refl _).al _
  have BP : Hid (BoxS W1 P [.slice a1 n1 q1, .slice a2 n2 q2]) := by rw [← hW1, ← hP]; exact box_newQ _ _ _
  rw [hW1, hP]
  clear hW1 hP
  refine (CK.out _ K11.out).mono ?_
  rintro e w2 ⟨rfl, k2⟩
  have K2 : Hid (Kept W1 w2) := k2
  clear k2
  have p0 := (BP.out.kept K2.out).cell 0 rfl
  have p1 := (BP.out.kept K2.out).cell 1 rfl
  have pl := block_lt_of_cell p0
  go_wp2_with fail
  refine Calls.mono (LS.out _ (K11.out.then K2.out)) ?_
  rintro e w3 ⟨a3, q3, rfl, H3⟩
  have HS3 : Hid (StsIn w3 0 w3.heap.size F (.slice a3 F.length q3)) := H3.out.1
  have K3 : Hid (Kept W1 w3) := K2.out.then H3.out.2
  clear p0 p1 pl H3
  have p0 := (BP.out.kept K3.out).cell 0 rfl
  have p1 := (BP.out.kept K3.out).cell 1 rfl
  have pl := block_lt_of_cell p0
  go_wp2_with fail
  refine Calls.mono (TH.out _ (K11.out.then K3.out)) ?_
  rintro e w4 ⟨a4, q4, rfl, H4⟩
  have HV : Hid (ValsD w4 (Rng w3.heap.size w4.heap.size) (thrs 0 t) (.slice a4 F.length q4)) := H4.out.1
  have HS4 : Hid (StsIn w4 0 w4.heap.size F (.slice a3 F.length q3)) := HS3.out.up (Nat.le_refl _) H4.out.2
  have K4 : Hid (Kept W1 w4) := K3.out.then H4.out.2
  clear p0 p1 pl H4 HS3
  have hfl : (F.length : Int) ≤ 20000 := by have := HFL.out; omega
  go_wp2_with fail
  go_loopw [26] (fun i wr => ∃ k : Nat, i = .int .i64 (k : Int) ∧ k ≤ F.length ∧ Hid (Kept w4 wr)) (fun i _ => F.length - (intOf i).toNat)
  case atStart => exact ⟨0, rfl, Nat.zero_le _, Kept.refl _⟩
  case round =>
    obtain ⟨k, rfl, hk, HI⟩ := hrel
    by_cases hlt : k < F.length
    · have hki : (k : Int) < (F.length : Int) := by omega
      obtain ⟨b, o, ea, en, eq, ba, bn, bq, la, ln, lq, rfl, _, hbb, _, c0, c1, c2, c3, c4, c5, c6, c7, c8, c9, c10, -, -, -⟩ := HS4.out.item (HI.out.stays (Nat.le_refl _)) k hlt
      have hbw : b < wr.heap.size := by have := HI.out.size; omega
      have bp := BP.out.kept (K4.out.then HI.out)
      have p0 := bp.cell 0 rfl
      have p1 := bp.cell 1 rfl
      have pl := bp.lt
      have TK : Hid _ := TG.out k
      clear bp
      obtain ⟨W5, hW5⟩ : ∃ W, wr.alloc (.cells #[.int .i64 F[k].kind, .string F[k].name, .string F[k].other, .int .i64 F[k].n, .int .i64 F[k].e.kind, .int .i64 F[k].e.n, .string F[k].e.name, .slice ea en eq, .slice ba bn bq, .slice la ln lq, .complex .f64 F[k].re F[k].im] 55) = W := ⟨_, rfl⟩
      obtain ⟨D, hD⟩ : ∃ D, wr.heap.size = D := ⟨_, rfl⟩
      have K5 : Hid (Kept w4 W5) := HI.out.then (by rw [← hW5]; exact (Kept.refl _).al _)
      have BD : Hid (W5.cell? ⟨D, 0, none⟩ = some (.int .i64 F[k].kind) ∧ W5.cell? ⟨D, 1, none⟩ = some (.string F[k].name)) := by rw [← hW5, ← hD]; exact ⟨by simp, by simp⟩
      have HWD : Hid _ := And.intro hW5 hD
      clear hW5 hD
      go_upto_region 8 with fail
      rw [HWD.out.1, HWD.out.2]
      clear c0 c1 c2 c3 c4 c5 c6 c7 c8 c9 c10 hbw HWD p0 p1 pl
      have bp := BP.out.kept (K4.out.then K5.out)
      have p0 := bp.cell 0 rfl
      have p1 := bp.cell 1 rfl
      have pl := bp.lt
      clear bp
      go_wp2_with fail
      refine (TK.out _ (K11.out.then (K4.out.then K5.out))).mono ?_
      rintro e w6 ⟨rfl, k6⟩
      have K6 : Hid (Kept w4 w6) := K5.out.then k6
      have d0 := k6.cellS BD.out.1
      have d1 := k6.cellS BD.out.2
      have dl := block_lt_of_cell d0
      clear p0 p1 pl k6 BD
      rcases JO2.out k hlt with ⟨hneg, hchk⟩ | ⟨j, hj, hst, hkj, hk9, hj10, hnm, ⟨v, hv1, hv2⟩, hin⟩
      · have HCK : Hid (chk (spt t 0 0) = none → F[k].kind ≠ 9) := hchk
        obtain ⟨T, hT⟩ : ∃ T, starg (spt t 0 0) (k : Int) = T := ⟨_, rfl⟩
        rw [hT] at hneg ⊢
        have hn0 : decide (0 ≤ T) = false := decide_eq_false (by omega)
        have hn1 : ¬ 0 ≤ T := by omega
        clear hchk hT
        by_cases h9 : F[k].kind = 9
        · have hE4 : E0 = 4 := by
            rcases HJE.out with ⟨_, h⟩ | h
            · exact absurd h9 (HCK.out h)
            · exact h
          subst hE4
          rw [h9] at d0
          clear h9
          go_wp2_with fail
          go_roundw
          case rel => exact ⟨k + 1, by go_num, by omega, K6⟩
          case measure => simp [intOf]; omega
        · have h9' : (F[k].kind == 9) = false := by simpa using h9
          rcases HJE.out with ⟨hE, -⟩ | hE
          all_goals
            subst hE
            clear h9
            go_wp2_with fail
            go_roundw
            case rel => exact ⟨k + 1, by go_num, by omega, K6⟩
            case measure => simp [intOf]; omega
      · rw [hst]
        rw [hk9] at d0
        have HIN : Hid (∀ (q : Nat) (hq : q < F.length), q < j → j + 1 ≤ q + F[q].size → q < k) := hin
        have HKJ : Hid (k < j ∧ j < F.length) := ⟨hkj, hj⟩
        obtain ⟨b2, o2, _, _, _, _, _, _, _, _, _, e2, _, hbb2, _, y0, y1, _, _, _, _, _, _, _, _, _, -, -, -⟩ := HS4.out.item (K6.out.stays (Nat.le_refl _)) j hj
        cases e2
        rw [hj10] at y0
        rw [hnm] at y1
        have htl := thrs_len 0 t
        have hjt : j < (thrs 0 t).length := (List.getElem?_eq_some_iff.1 hv1).1
        have hkt : k < (thrs 0 t).length := (List.getElem?_eq_some_iff.1 hv2).1
        have HV6 : ValsD w6 (Rng w3.heap.size w4.heap.size) (thrs 0 t) (.slice a4 F.length q4) := HV.out.stays (K6.out.stays (Nat.le_refl _))
        obtain ⟨bt, ot, e4, hbt, u1⟩ := HV6.itemD j hjt
        obtain ⟨bt2, ot2, e5, hbt2, u2⟩ := HV6.itemD k hkt
        subst e4
        cases e5
        rw [(List.getElem?_eq_some_iff.1 hv1).2] at u1
        rw [(List.getElem?_eq_some_iff.1 hv2).2] at u2
        have hb6 : b < w6.heap.size := block_lt_of_cell y0
        have ht6 : bt < w6.heap.size := block_lt_of_cell u1
        have hj0 : (0 : Int) ≤ (j : Int) := by omega
        have hj0n : ¬ (j : Int) < 0 := by omega
        have hk0 : (0 : Int) ≤ (k : Int) := by omega
        have hjk : decide ((j : Int) ≤ (k : Int)) = false := decide_eq_false (by omega)
        have hjk2 : decide (j ≤ k) = false := decide_eq_false (by omega)
        have hjl : decide ((F.length : Int) ≤ (j : Int)) = false := decide_eq_false (by omega)
        have hjl2 : decide (F.length ≤ j) = false := decide_eq_false (by omega)
        have hjlt : (j : Int) < (F.length : Int) := by omega
        clear htl hjt hkt HV6 hbt hbt2 hbb2 hv1 hv2 hst hnm hin hj10 hk9
        rcases HJE.out with ⟨hE, -⟩ | hE
        all_goals
          subst hE
          go_upto_region 12 with fail
          go_region_held3 (fun w' => w'.cell? ⟨b, o + j * 11, none⟩ = some (.int .i64 10) ∧ w'.cell? ⟨b, o + j * 11 + 1, none⟩ = some (.string F[k].name) ∧ w'.cell? ⟨D, 1, none⟩ = some (.string F[k].name) ∧ w'.cell? ⟨bt, ot + j, none⟩ = some (.int .i64 v) ∧ w'.cell? ⟨bt, ot + k, none⟩ = some (.int .i64 v)) (go_keep) (fail)
          clear y0 y1 u1 u2 hb6 ht6 d0 d1 dl hj0n hjk hjk2 hjl hjl2 hjlt
          go_wp2_with fail
          go_loopw [11] (fun i wq => ∃ q : Nat, i = .int .i64 (q : Int) ∧ q ≤ j ∧ Hid (Kept w4 wq)) (fun i _ => j - (intOf i).toNat)
          case atStart => exact ⟨0, rfl, Nat.zero_le _, K6.out.dr⟩
          case round =>
            obtain ⟨q, rfl, hq, HQ⟩ := hrel
            by_cases hqj : q < j
            · have hqi : (q : Int) < (j : Int) := by omega
              have hqF : q < F.length := by have := HKJ.out; omega
              have hql : (q : Int) < (F.length : Int) := by omega
              have hq0 : (0 : Int) ≤ (q : Int) := by omega
              obtain ⟨b3, o3, ea3, en3, eq3, ba3, bn3, bq3, la3, ln3, lq3, e3, _, hbb3, _, z0, z1, z2, z3, z4, z5, z6, z7, z8, z9, z10, k1, k2, k3⟩ := HS4.out.item (HQ.out.stays (Nat.le_refl _)) q hqF
              cases e3
              have hbz : b < wr.heap.size := block_lt_of_cell z0
              have hs := HSZ.out q hqF
              have hin := HIN.out q hqF hqj
              have PW : Hid (∀ W, Kept wr W → Calls Try.prog 25 #[.agg #[.int .i64 F[q].kind, .string F[q].name, .string F[q].other, .int .i64 F[q].n, .int .i64 F[q].e.kind, .int .i64 F[q].e.n, .string F[q].e.name, .slice ea3 en3 eq3, .slice ba3 bn3 bq3, .slice la3 ln3 lq3, .complex .f64 F[q].re F[q].im]] W fun e w' => e = .returned (.int .i64 ((F[q].size : Int) - 1)) ∧ Kept W w') := fun W hW => by
                have hst2 : StaysD (Rng 0 w4.heap.size) wr W := hW.stays HQ.out.size
                exact lwithin_any F[q] W w4.heap.size _ _ _ (Nat.le_trans HQ.out.size hW.size) (k1.stays hst2) (k2.stays hst2) (k3.stays hst2) (by omega)
              obtain ⟨z, hz⟩ : ∃ z, (F[q].size : Int) - 1 = z := ⟨_, rfl⟩
              rw [hz] at PW
              have HZ : Hid (0 ≤ z ∧ z ≤ 20000 ∧ ((j : Int) ≤ (q : Int) + z → q < k)) := ⟨by omega, by omega, fun h => hin (by omega)⟩
              have hwz : IntKind.i64.wrap ((q : Int) + z) = (q : Int) + z := by rw [IntKind.wrap_i64]; have := HZ.out; omega
              clear hs hin hz k1 k2 k3 hbb3
              generalize F[q] = xq at *
              go_wp2_with fail
              refine (PW.out _ (Kept.refl _)).mono ?_
              rintro e w9 ⟨rfl, k9⟩
              have K9 : Hid (Kept w4 w9) := HQ.out.then k9
              clear z0 z1 z2 z3 z4 z5 z6 z7 z8 z9 z10 hbz k9
              by_cases hz0 : z = 0
              · subst hz0
                go_wp2_with fail
                go_roundw
                case rel => exact ⟨q + 1, by go_num, by omega, K9⟩
                case measure => simp [intOf]; omega
              · have hz0' : (z == 0) = false := by simpa using hz0
                by_cases hjz : (j : Int) ≤ (q : Int) + z
                · have hqk : q < k := HZ.out.2.2 hjz
                  have g1 : decide ((k : Int) ≤ (q : Int)) = false := decide_eq_false (by omega)
                  have g2 : decide (k ≤ q) = false := decide_eq_false (by omega)
                  have g3 : decide ((q : Int) + z < (k : Int)) = false := decide_eq_false (by have := HKJ.out; omega)
                  clear hz0
                  go_wp2_with fail
                  go_roundw
                  case rel => exact ⟨q + 1, by go_num, by omega, K9⟩
                  case measure => simp [intOf]; omega
                · have g1 : decide ((j : Int) ≤ (q : Int) + z) = false := decide_eq_false hjz
                  clear hz0
                  go_wp2_with fail
                  go_roundw
                  case rel => exact ⟨q + 1, by go_num, by omega, K9⟩
                  case measure => simp [intOf]; omega
            · have hqi : ¬ (q : Int) < (j : Int) := by omega
              go_wp2_with fail
              go_roundw
              case rel => exact ⟨k + 1, by go_num, by omega, HQ⟩
              case measure => simp [intOf]; omega
    · have hki : ¬ (k : Int) < (F.length : Int) := by omega
      have HK : Hid (Kept w wr) := K1.out.then (K11.out.then (K4.out.then HI.out))
      go_wp2_with fail
      refine (KN.out _).mono ?_
      rintro e w8 ⟨rfl, k8⟩
      have HK8 : Hid (Kept w w8) := HK.out.then k8
      clear k8
      go_wp2_with fail
      go_ret
      exact ⟨rfl, HK8.out⟩
end Go.Proofs.Ytbfikeegacapjaa
