/- Bp8 -/
import Derived.Test.YtnfkjmafhaecgaaZSmA
import Derived.Deep.RegionHeld3

namespace Go.Proofs.Ytnfkjmafhaecgaa
open Go.RowKit
attribute [local go_sem] run_store_complex
/-- What Prog leaves: a row of threads that nothing else lies in. -/
def MadeB (w : World) (most : Int) (nc : Nat) (r : Ending) (w' : World) : Prop :=
  ∃ (d : List Dc) (ps : List (List St × Value)) (base : Nat) (a1 : Option Addr) (n1 q1 : Nat) (a2 : Option Addr) (n2 q2 : Nat), r = .returned (.agg #[.slice a1 n1 q1, .slice a2 n2 q2]) ∧
    Hid (OwnB w' base (Far base w' (.slice a2 n2 q2)) ps (.slice a2 n2 q2) ∧ w.heap.size ≤ base ∧ GoodP d (ps.map (·.1)) most nc ∧ Kept w w')
theorem fin_progB {w W0 W1 wr : World} {d : List Dc} {ad a4 : Option Addr} {nd qd n4 q4 : Nat} {ps : List (List St × Value)} {most : Int} {nc : Nat} (k0 : Kept w W0) (hz : W0.heap.size = w.heap.size + 1) (hD : DsIn W1 W0.heap.size W1.heap.size d (.slice ad nd qd) ∧ (d.length = 8 ∧ ∀ x ∈ d, Ps.GdD x) ∧ Kept W0 W1)
    (hI : PrI w W1 wr d (.slice ad nd qd) ps (.slice a4 n4 q4)) (hJ : 2 ≤ ps.length ∧ ps.length ≤ 3 ∧ (4 < most ∨ nc = 0 → ps.length = 2)) : MadeB w most nc (.returned (.agg #[.slice ad nd qd, .slice a4 n4 q4])) (wr.setCells w.heap.size 0 [.slice ad nd qd, .slice a4 n4 q4]) := by
  have h1 := hD.2.2.size
  have h2 := hI.below.size
  have h3 := hI.own.le
  refine ⟨d, ps, W1.heap.size + 1, ad, nd, qd, a4, n4, q4, rfl, ?_, by omega, ⟨hD.2.1, by simpa using hJ.1, by simpa using hJ.2.1, by simpa using hJ.2.2, fun x hx => ?_⟩, ?_⟩
  · exact hI.own.bu (M := (· = w.heap.size)) (Bu.sets (M := (· = w.heap.size)) (Bu.refl _ _) (.inl rfl) 0 [.slice ad nd qd, .slice a4 n4 q4]) (fun k hk _ e => by omega)
  · obtain ⟨p, hp, rfl⟩ := List.mem_map.1 hx
    exact hI.ok p hp
  · exact Below.setCells (Below.trans (Below.trans k0 (hD.2.2.mono (by omega))) (hI.below.mono (by omega))) (Nat.le_refl _) _ _
set_option maxRecDepth 100000 in
set_option maxHeartbeats 4000000 in
theorem prog_ofB (HS : AskS) (how : Int) (la lb lc : List Ac) (va vb vc : Value) (most : Int) (w : World) (hh1 : -9223372036854775808 ≤ how) (hh2 : how ≤ 9223372036854775807) (ha : ActsR w w.heap.size la va) (hb : ActsR w w.heap.size lb vb) (hc : ActsR w w.heap.size lc vc) (hm1 : most ≤ 1000) (hm2 : -1000 ≤ most) :
    Calls Try.prog 9 #[.int .i64 how, va, vb, vc, .int .i64 most] w fun r w' => MadeB w most lc.length r w' := by
  have HA : Hid (ActsR w w.heap.size la va ∧ ActsR w w.heap.size lb vb ∧ ActsR w w.heap.size lc vc) := ⟨ha, hb, hc⟩
  have HSS : Hid AskS := HS
  obtain ⟨a1, q1, rfl, x1, x2, -⟩ := ha.out
  obtain ⟨a2, q2, rfl, x3, x4, -⟩ := hb.out
  obtain ⟨a3, q3, rfl, x5, x6, -⟩ := hc.out
  clear ha hb hc x1 x3 x5 x2 x4 x6 HS
  obtain ⟨W0, hW0⟩ : ∃ W0, w.alloc (.cells #[.slice none 0 0, .slice none 0 0] 27) = W0 := ⟨_, rfl⟩
  have HW0 : Hid (Kept w W0 ∧ W0.heap.size = w.heap.size + 1 ∧ (∃ u, W0.cell? ⟨w.heap.size, 0, none⟩ = some u) ∧ (∃ u, W0.cell? ⟨w.heap.size, 1, none⟩ = some u) ∧ ∀ j, W0.frozen? ⟨w.heap.size, j, none⟩ = false) := by
    rw [← hW0]
    exact ⟨(Kept.refl _).al _, by simp, ⟨.slice none 0 0, by simp⟩, ⟨.slice none 0 0, by simp⟩, by simp⟩
  have PD : Hid _ := decls_any how W0 hh1 hh2
  clear hh1 hh2
  go_enter Try.func9, Try.ntmps9
  go_wp2_with fail
  clear hW0
  refine Calls.mono PD.out ?_
  rintro r W1 ⟨d, ad, nd, qd, rfl, HD⟩
  have hz01 := HD.out.2.2.size
  have hz0 := HW0.out.2.1
  have hR : w.heap.size < W1.heap.size := by omega
  clear hz01 hz0 PD
  go_wp2_with fail
  go_loopw [23] (fun i wr => ∃ (k : Nat) (ps : List (List St × Value)) (a4 : Option Addr) (n4 q4 : Nat), i = .int .i64 (k : Int) ∧ k ≤ 3 ∧ Hid (PrI w W1 wr d (.slice ad nd qd) ps (.slice a4 n4 q4) ∧ ps.length = k ∧ (k = 3 → most ≤ 4 ∧ lc.length ≠ 0))) (fun i _ => 3 - (intOf i).toNat)
  case atStart =>
    refine ⟨0, [], none, 0, 0, rfl, by omega, ⟨by simp, by simp, by simp, (Below.refl _ _).alloc (Nat.le_refl _) _, OwnB.nil _ _ _ (by simp), fun p h => by cases h⟩, rfl, fun h => by cases h⟩
  case round =>
    obtain ⟨k, ps, a4, n4, q4, rfl, hk, HI⟩ := hrel
    have p0 := HI.out.1.c0
    have p1 := HI.out.1.c1
    have pf := HI.out.1.fz
    obtain ⟨u0, e0⟩ := HW0.out.2.2.1
    obtain ⟨u1, e1⟩ := HW0.out.2.2.2.1
    have r0 : wr.cell? ⟨w.heap.size, 0, none⟩ = some u0 := (HI.out.1.below.cell hR).trans (HD.out.2.2.cellS e0)
    have r1 : wr.cell? ⟨w.heap.size, 1, none⟩ = some u1 := (HI.out.1.below.cell hR).trans (HD.out.2.2.cellS e1)
    have rf : ∀ j, wr.frozen? ⟨w.heap.size, j, none⟩ = false := fun j => (HI.out.1.below.frozen (p := ⟨w.heap.size, j, none⟩) hR).trans ((HD.out.2.2.frozen (p := ⟨w.heap.size, j, none⟩) (by have := HW0.out.2.1; show w.heap.size < _; omega)).trans (HW0.out.2.2.2.2 j))
    clear e0 e1
    by_cases hk3 : k < 3
    · have hki : (k : Int) < 3 := by omega
      obtain ⟨ax, nx, qx, hor, hidx⟩ := index_three a1 a2 a3 la.length q1 lb.length q2 lc.length q3 k hk3
      have HAX : Hid (∃ l, ActsR w w.heap.size l (.slice ax nx qx)) := by
        rcases hor with e | e | e
        · rw [e]; exact ⟨la, HA.out.1⟩
        · rw [e]; exact ⟨lb, HA.out.2.1⟩
        · rw [e]; exact ⟨lc, HA.out.2.2⟩
      clear hor
      by_cases hbr : k = 2 ∧ (lc.length = 0 ∨ 4 < most)
      · have g2 : ((k : Int) == 2) = true := by rw [beq_iff_eq]; omega
        have HB2 : Hid (k = 2) := hbr.1
        by_cases hl0 : lc.length = 0
        · have g0 : ((lc.length : Int) == 0) = true := by rw [beq_iff_eq]; omega
          clear hbr hl0
          go_wp2_with fail
          have HT : wr.there w.heap.size 0 2 := there_of 2 (fun j hj => by
            match j, hj with
            | 0, _ => exact ⟨_, r0⟩
            | 1, _ => exact ⟨_, r1⟩) rf
          refine bodyPost_ret (v := .agg #[.slice ad nd qd, .slice a4 n4 q4]) (w := wr.setCells w.heap.size 0 [.slice ad nd qd, .slice a4 n4 q4]) (results_cell_mid (P := Try.prog) Try.results9 _ _ w.heap.size 0 _ _ rfl (World.rangeAt_setCells_same _ _ _ _ HT) Try.underlying27 rfl (by kernel_rfl)) rfl ?_
          exact fin_progB HW0.out.1 HW0.out.2.1 HD.out HI.out.1 (by have h1 := HI.out.2; have h2 := HB2.out; exact ⟨by omega, by omega, fun h => by omega⟩)
        · have g0 : ((lc.length : Int) == 0) = false := by rw [beq_eq_false_iff_ne]; omega
          have gm : 4 < most := by omega
          clear hbr hl0
          go_wp2_with fail
          have HT : wr.there w.heap.size 0 2 := there_of 2 (fun j hj => by
            match j, hj with
            | 0, _ => exact ⟨_, r0⟩
            | 1, _ => exact ⟨_, r1⟩) rf
          refine bodyPost_ret (v := .agg #[.slice ad nd qd, .slice a4 n4 q4]) (w := wr.setCells w.heap.size 0 [.slice ad nd qd, .slice a4 n4 q4]) (results_cell_mid (P := Try.prog) Try.results9 _ _ w.heap.size 0 _ _ rfl (World.rangeAt_setCells_same _ _ _ _ HT) Try.underlying27 rfl (by kernel_rfl)) rfl ?_
          exact fin_progB HW0.out.1 HW0.out.2.1 HD.out HI.out.1 (by have h1 := HI.out.2; have h2 := HB2.out; exact ⟨by omega, by omega, fun h => by omega⟩)
      · have key : ((k : Int) == 2) = false ∨ (((k : Int) == 2) = true ∧ ((lc.length : Int) == 0) = false ∧ ¬ 4 < most) := by
          by_cases h2 : k = 2
          · refine .inr ⟨by rw [beq_iff_eq]; omega, by rw [beq_eq_false_iff_ne]; omega, by omega⟩
          · exact .inl (by rw [beq_eq_false_iff_ne]; omega)
        have HJ : Hid (k + 1 = 3 → most ≤ 4 ∧ lc.length ≠ 0) := fun h => by omega
        have hbw : Below w.heap.size w wr := Below.trans (Below.trans HW0.out.1 (HD.out.2.2.mono (by have := HW0.out.2.1; omega))) (HI.out.1.below.mono (Nat.le_of_lt hR))
        obtain ⟨lx, hlx⟩ := HAX.out
        have PA : Hid _ := acts_any lx wr w.heap.size _ (hlx.below hbw)
        have hsz : W1.heap.size + 1 ≤ wr.heap.size := HI.out.1.own.le
        have hlen := HI.out.2.1
        have HLN : Hid (ps.length = k) := hlen
        clear hbr hbw hlx hlen
        have hpz : W1.heap.size < wr.heap.size := by omega
        have hpl : ps.length ≤ 3 := by have := HLN.out; omega
        rcases key with g2 | ⟨g2, g3, g4⟩
        all_goals
          go_wp2_with fail
          refine Calls.mono PA.out ?_
          rintro r w' ⟨l', a5, n5, q5, rfl, hl', hl16, rfl⟩
          have PSt : Hid _ := HSS.out l' w' w.heap.size (.slice a5 n5 q5) most hl16 (by omega) hl' hm1 hm2
          clear PA hl'
          go_wp2_with fail
          refine Calls.mono PSt.out ?_
          rintro r w2 ⟨ss, a6, n6, q6, rest, a7, n7, q7, rfl, HM⟩
          have hk2 : Kept w' w2 := HM.out.2.2.2.2.2
          have t0 : w2.cell? ⟨W1.heap.size, 0, none⟩ = some (.slice ad nd qd) := hk2.cellS p0
          have t1 : w2.cell? ⟨W1.heap.size, 1, none⟩ = some (.slice a4 n4 q4) := hk2.cellS p1
          have tf : ∀ j, w2.frozen? ⟨W1.heap.size, j, none⟩ = false := fun j => (hk2.frozen (p := ⟨W1.heap.size, j, none⟩) hpz).trans (pf j)
          have HK2 : Hid _ := hk2
          have HOW : Hid (OwnB (w2.alloc (.cells #[.slice a6 n6 q6] 34)) (W1.heap.size + 1) (Far (W1.heap.size + 1) w' (.slice a4 n4 q4)) ps (.slice a4 n4 q4)) := HI.out.1.own.kept (hk2.al _) fun i hi => hi.2.1
          clear hk2 p0 p1 pf r0 r1 rf PSt
          go_wp2_with (at_builtin; refine wpList_append_rows (base := W1.heap.size + 1) (n := ps.length) (xs := ps.map (·.2)) (by rfl) _ _ _ (by rfl) elemTs (by rfl) HOW.out.row (by rfl) (own_lit 0 34 1 _ (by rfl) (Nat.zero_le _)) ?one (by omega) ?len HOW.out.le ?_)
          case one => exact rfl
          case len => unfold maxLen; omega
          intro a8 q8 w4 HG
          obtain ⟨h1, h2⟩ := HI.out.1.own.next (Kept.al HK2.out _) ((HM.out.1.stays (((Kept.refl w2).al _).stays (Nat.le_refl _))).mono (Rng.up (Nat.le_refl _) (by simp))) HG.out
          have hnw : some W1.heap.size ≠ (Value.slice a4 n4 q4).ownBlock := fun e => by have := HI.out.1.own.base_le _ e.symm; omega
          have hzz : W1.heap.size < w2.heap.size := by have := HK2.out.size; omega
          have v0 : w4.cell? ⟨W1.heap.size, 0, none⟩ = some (.slice ad nd qd) := HG.out.grown.cell (((Kept.refl w2).al _).cellS t0) hnw
          have v1 : w4.cell? ⟨W1.heap.size, 1, none⟩ = some (.slice a4 n4 q4) := HG.out.grown.cell (((Kept.refl w2).al _).cellS t1) hnw
          have vf : ∀ j, w4.frozen? ⟨W1.heap.size, j, none⟩ = false := fun j => by
            have hb := HG.out.grown.block W1.heap.size (by simp; omega) hnw
            rw [World.frozen?_of_block (w := w2.alloc (.cells #[.slice a6 n6 q6] 34)) (a := ⟨W1.heap.size, j, none⟩) hb]
            exact (((Kept.refl w2).al _).frozen (p := ⟨W1.heap.size, j, none⟩) hzz).trans (tf j)
          have HNX : Hid (PrI w W1 (w4.setCell ⟨W1.heap.size, 1, none⟩ (.slice a8 (ps.length + 1) q8)) d (.slice ad nd qd) (ps ++ [(ss, .slice a6 n6 q6)]) (.slice a8 (ps.length + 1) q8)) := by
            refine ⟨(World.cell?_setCell_other _ _ _ _ (by simp)).trans v0, World.cell?_setCell_same _ _ _ v1, fun j => by rw [World.frozen?_setCell]; exact vf j, Below.setCell (HI.out.1.below.trans (h2.below (by omega) (fun k e => by have := HI.out.1.own.base_le k e; omega))) (Nat.le_refl _) _, h1.low (by omega) _ _, fun p hp => ?_⟩
            rcases List.mem_append.1 hp with hp | hp
            · exact HI.out.1.ok p hp
            · obtain rfl : p = (ss, .slice a6 n6 q6) := by simpa using hp
              exact ⟨HM.out.2.2.2.1, by have := HM.out.2.2.1; show St.sizes ss ≤ 16; omega⟩
          clear h1 h2 t0 t1 tf hnw HOW HG
          go_wp2_with fail
          go_roundw
          case rel => exact ⟨k + 1, _, _, _, _, by go_num, by omega, HNX.out, by have := HLN.out; simp; omega, HJ.out⟩
          case measure => simp [intOf]; omega
    · have hki : ¬ (k : Int) < 3 := by omega
      go_wp2_with fail
      have HT : wr.there w.heap.size 0 2 := there_of 2 (fun j hj => by
        match j, hj with
        | 0, _ => exact ⟨_, r0⟩
        | 1, _ => exact ⟨_, r1⟩) rf
      refine bodyPost_ret (v := .agg #[.slice ad nd qd, .slice a4 n4 q4]) (w := wr.setCells w.heap.size 0 [.slice ad nd qd, .slice a4 n4 q4]) (results_cell_mid (P := Try.prog) Try.results9 _ _ w.heap.size 0 _ _ rfl (World.rangeAt_setCells_same _ _ _ _ HT) Try.underlying27 rfl (by kernel_rfl)) rfl ?_
      exact fin_progB HW0.out.1 HW0.out.2.1 HD.out HI.out.1 (by have := HI.out.2; exact ⟨by omega, by omega, fun h => by omega⟩)
theorem prog_anyB (how : Int) (la lb lc : List Ac) (va vb vc : Value) (most : Int) (w : World) (hh1 : -9223372036854775808 ≤ how) (hh2 : how ≤ 9223372036854775807) (ha : ActsR w w.heap.size la va) (hb : ActsR w w.heap.size lb vb) (hc : ActsR w w.heap.size lc vc) (hm1 : most ≤ 1000) (hm2 : -1000 ≤ most) :
    Calls Try.prog 9 #[.int .i64 how, va, vb, vc, .int .i64 most] w fun r w' => MadeB w most lc.length r w' :=
  prog_ofB (fun l W hi v most h1 h2 h3 h4 h5 => stmts_any 16 l W hi v most 1 h1 (Nat.le_refl _) h2 h3 h4 h5 (by omega) (by omega)) how la lb lc va vb vc most w hh1 hh2 ha hb hc hm1 hm2
end Go.Proofs.Ytnfkjmafhaecgaa
