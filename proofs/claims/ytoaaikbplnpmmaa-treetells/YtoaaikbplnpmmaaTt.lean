/- TreeTells. -/
import Derived.Test.YtoaaikbplnpmmaaLw
import Derived.Deep.RegionHeld3
import Derived.Deep.DeepCutAuto
namespace Go.Proofs.Ytoaaikbplnpmmaa
open Go.RowKit
attribute [local go_sem] run_store_complex
attribute [local go_sem ↓] cut_b cut_t

theorem ActsR.upTo {w : World} {hi hi' : Nat} {l : List Ac} {v : Value} (h : ActsR w hi l v) (k : hi ≤ hi') : ActsR w hi' l v := by
  obtain ⟨a, cap, e, h1, h2, h3, h4⟩ := h.out
  refine ⟨a, cap, e, h1, h2, fun i hi => ?_, h4⟩
  obtain ⟨b, o, a1, n1, q1, e1, e2, e3, e4, e5, e6, e7, e8⟩ := h3 i hi
  exact ⟨b, o, a1, n1, q1, e1, by omega, e3, e4, e5, e6, e7, e8.mono k⟩

/-- The texts l lie behind v, in w and in whatever keeps it. -/
def Lasts (w : World) (l : List ByteArray) (v : Value) : Prop := ∀ W', Kept w W' → ValsD W' (Rng 0 W'.heap.size) (strs l) v
theorem thrs_int : ∀ (t : List (List St)) (J : Nat) (h : J < (thrs 0 t).length), ∃ K : Int, (thrs 0 t)[J] = .int .i64 K := by
  have key : ∀ (t : List (List St)) (k : Nat) (v : Value), v ∈ thrs k t → ∃ K : Int, v = .int .i64 K := by
    intro t
    induction t with
    | nil => intro k v h; simp [thrs] at h
    | cons a t ih =>
      intro k v h
      rw [thrs, List.mem_append] at h
      rcases h with h | h
      · exact ⟨_, (List.mem_replicate.1 h).2⟩
      · exact ih _ v h
  exact fun t J h => key t 0 _ (List.getElem_mem h)

set_option maxRecDepth 100000 in
set_option maxHeartbeats 4000000 in
theorem treeTells_any (how other : Int) (la lb lc le : List Ac) (va vb vc ve : Value) (w : World) (hh1 : -9223372036854775808 ≤ how) (hh2 : how ≤ 9223372036854775807) (ho1 : -9223372036854775808 ≤ other) (ho2 : other ≤ 9223372036854775807) (ha : ActsR w w.heap.size la va) (hb : ActsR w w.heap.size lb vb) (hc : ActsR w w.heap.size lc vc) (he : ActsR w w.heap.size le ve) :
    Calls Try.prog 4 #[.int .i64 how, .int .i64 other, va, vb, vc, ve] w fun r w' => r = .returned (.bool true) ∧ Kept w w' := by
  have PP : Hid _ := prog_any how la lb lc va vb vc 4 w hh1 hh2 ha hb hc (by omega) (by omega)
  have PQ : Hid (∀ W, Kept w W → Calls Try.prog 14 #[.int .i64 other, va, ve, vc, .int .i64 4] W fun r w' => MadeP W 4 r w') := fun W hW =>
    prog_any other la le lc va ve vc 4 W ho1 ho2 (ActsR.upTo (ha.kept hW) hW.size) (ActsR.upTo (he.kept hW) hW.size) (ActsR.upTo (hc.kept hW) hW.size) (by omega) (by omega)
  obtain ⟨a1, q1, rfl, -⟩ := ha.out
  obtain ⟨a2, q2, rfl, -⟩ := hb.out
  obtain ⟨a3, q3, rfl, -⟩ := hc.out
  obtain ⟨a9, q9, rfl, -⟩ := he.out
  clear ha hb hc he hh1 hh2 ho1 ho2
  go_enter Try.func4, Try.ntmps4
  go_wp2_with fail
  refine Calls.mono PP.out ?_
  rintro r w1 ⟨d, t, ad, nd, qd, at', nt, qt, rfl, HP⟩
  clear PP
  go_wp2_with fail
  refine (PQ.out _ (HP.out.2.2.2.al _)).mono ?_
  rintro r w2 ⟨d2, t2, ad2, nd2, qd2, at2, nt2, qt2, rfl, HQ⟩
  clear PQ
  have b0 : w2.cell? ⟨w1.heap.size, 0, none⟩ = some (.slice ad nd qd) := HQ.out.2.2.2.cellS (by simp)
  have b1 : w2.cell? ⟨w1.heap.size, 1, none⟩ = some (.slice at' nt qt) := HQ.out.2.2.2.cellS (by simp)
  have hz12 : w1.heap.size < w2.heap.size := block_lt_of_cell b0
  have HKp : Hid (Kept w1 w2) := ((Kept.refl w1).al _).then HQ.out.2.2.2
  go_wp2_with fail
  obtain ⟨W1, hW1⟩ : ∃ W1, w2.alloc (.cells #[.slice ad2 nd2 qd2, .slice at2 nt2 qt2] 33) = W1 := ⟨_, rfl⟩
  rw [hW1]
  have HW1 : Hid (Kept w2 W1) := by rw [← hW1]; exact (Kept.refl _).al _
  have d0 : W1.cell? ⟨w2.heap.size, 0, none⟩ = some (.slice ad2 nd2 qd2) := by rw [← hW1]; simp
  have d1 : W1.cell? ⟨w2.heap.size, 1, none⟩ = some (.slice at2 nt2 qt2) := by rw [← hW1]; simp
  have c0 := HW1.out.cellS b0
  have c1 := HW1.out.cellS b1
  clear hW1 b0 b1
  have HU : Hid (∀ W, Kept W1 W → DsIn W 0 W.heap.size d (.slice ad nd qd) ∧ TsIn W 0 W.heap.size t (.slice at' nt qt)) := fun W hW => ⟨HP.out.1.up (Nat.le_refl _) (HKp.out.then (HW1.out.then hW)), HP.out.2.1.up (Nat.le_refl _) (HKp.out.then (HW1.out.then hW))⟩
  have HU2 : Hid (∀ W, Kept W1 W → DsIn W 0 W.heap.size d2 (.slice ad2 nd2 qd2) ∧ TsIn W 0 W.heap.size t2 (.slice at2 nt2 qt2)) := fun W hW => ⟨HQ.out.1.up (Nat.le_refl _) (HW1.out.then hW), HQ.out.2.1.up (Nat.le_refl _) (HW1.out.then hW)⟩
  have HG : Hid (GoodP d t 4) := HP.out.2.2.1
  have HB : Hid ((flatTs t).length ≤ 48 ∧ ∀ x ∈ t, St.wts x ≤ 1073741824) := ⟨HG.out.flat, HG.out.wts⟩
  have hKW : Hid (Kept w W1) := HP.out.2.2.2.then (HKp.out.then HW1.out)
  clear HP HQ HKp HW1
  obtain ⟨B, hB⟩ : ∃ B, (Dc.sames d d2 && sameTs t t2) = B := ⟨_, rfl⟩
  have PK : Hid (∀ W, Kept W1 W → Calls Try.prog 10 #[] W fun r w' => r = .returned (.bool true) ∧ Hid (Kept W1 w')) := fun W hW => by
    refine (known_any W).mono ?_
    rintro r w' ⟨rfl, h⟩
    exact ⟨rfl, hW.then h⟩
  have PS : Hid (∀ W, Kept W1 W → Calls Try.prog 13 #[.agg #[.slice ad nd qd, .slice at' nt qt], .agg #[.slice ad2 nd2 qd2, .slice at2 nt2 qt2]] W fun r w' => r = .returned (.bool B) ∧ Hid (Kept W1 w')) := fun W hW => by
    refine (same_any d d2 t t2 W _ _ _ _ (HU.out W hW).1 (HU.out W hW).2 (HU2.out W hW).1 (HU2.out W hW).2).mono ?_
    rintro r w' ⟨rfl, h⟩
    rw [hB]
    exact ⟨rfl, hW.then h⟩
  have PR : Hid (∀ W, Kept W1 W → Calls Try.prog 15 #[.agg #[.slice ad nd qd, .slice at' nt qt], .agg #[.slice ad2 nd2 qd2, .slice at2 nt2 qt2]] W fun r w' => r = .returned (.bool B) ∧ Hid (Kept W1 w')) := fun W hW => by
    refine (rsame_any d d2 t t2 W _ _ _ _ (HU.out W hW).1 (HU.out W hW).2 (HU2.out W hW).1 (HU2.out W hW).2).mono ?_
    rintro r w' ⟨rfl, h⟩
    rw [hB]
    exact ⟨rfl, hW.then h⟩
  have PSS : Hid (∀ W, Kept W1 W → Calls Try.prog 13 #[.agg #[.slice ad nd qd, .slice at' nt qt], .agg #[.slice ad nd qd, .slice at' nt qt]] W fun r w' => r = .returned (.bool true) ∧ Hid (Kept W1 w')) := fun W hW => by
    refine (same_any d d t t W _ _ _ _ (HU.out W hW).1 (HU.out W hW).2 (HU.out W hW).1 (HU.out W hW).2).mono ?_
    rintro r w' ⟨rfl, h⟩
    rw [Dc.sames_refl, sameTs_refl]
    exact ⟨rfl, hW.then h⟩
  clear hB
  have eBB : (B != B) = false := by simp
  have SS : Hid (∀ w', Kept W1 w' → Hid (Kept W1 w') ∧ w'.cell? ⟨w1.heap.size, 0, none⟩ = some (.slice ad nd qd) ∧ w'.cell? ⟨w1.heap.size, 1, none⟩ = some (.slice at' nt qt) ∧ w'.cell? ⟨w2.heap.size, 0, none⟩ = some (.slice ad2 nd2 qd2) ∧ w'.cell? ⟨w2.heap.size, 1, none⟩ = some (.slice at2 nt2 qt2)) := fun w' KK => ⟨KK, KK.cellS c0, KK.cellS c1, KK.cellS d0, KK.cellS d1⟩
  go_upto_region 3 with fail
  go_cut [46] (fun b wc => b = .bool false ∧ Hid (Kept W1 wc))
  case first =>
    go_region_held3 (fun w' => Hid (Kept W1 w') ∧ w'.cell? ⟨w1.heap.size, 0, none⟩ = some (.slice ad nd qd) ∧ w'.cell? ⟨w1.heap.size, 1, none⟩ = some (.slice at' nt qt) ∧ w'.cell? ⟨w2.heap.size, 0, none⟩ = some (.slice ad2 nd2 qd2) ∧ w'.cell? ⟨w2.heap.size, 1, none⟩ = some (.slice at2 nt2 qt2))
      (first
        | exact SS.out _ hk4.out
        | exact SS.out _ hk3.out
        | exact SS.out _ hk2.out
        | exact SS.out _ hk1.out
        | exact SS.out _ ((Kept.refl W1).dr))
      (first
        | (go_at_call 10; refine (PK.out _ ((Kept.refl W1).dr)).mono ?_; rintro e w4 ⟨rfl, hk1⟩)
        | (go_at_call 15; refine (PR.out _ hk2.out).mono ?_; rintro e w6 ⟨rfl, hk3⟩)
        | (go_at_call 15; refine (PR.out _ hk1.out).mono ?_; rintro e w6 ⟨rfl, hk3⟩)
        | (go_at_call_of 13 (Value.slice at2 nt2 qt2); refine (PS.out _ hk3.out).mono ?_; rintro e w5 ⟨rfl, hk2⟩)
        | (go_at_call_of 13 (Value.slice at2 nt2 qt2); refine (PS.out _ hk1.out).mono ?_; rintro e w5 ⟨rfl, hk2⟩)
        | (go_at_call 13; refine (PSS.out _ hk3.out).mono ?_; rintro e w7 ⟨rfl, hk4⟩)
        | (go_at_call 13; refine (PSS.out _ hk2.out).mono ?_; rintro e w7 ⟨rfl, hk4⟩))
    all_goals
      rename_i hH
      clear hH
      go_wp2_with fail
      go_meet
      case rel => exact ⟨rfl, hk4⟩
  case rest =>
    obtain ⟨rfl, HKc⟩ := hcut
    clear PK PS PR PSS SS eBB d0 d1
    have e0 := HKc.out.cellS c0
    have e1' := HKc.out.cellS c1
    obtain ⟨N, hN⟩ : ∃ N, (flatTs t).length = N := ⟨_, rfl⟩
    have HN : Hid ((flatTs t).length = N ∧ N ≤ 48) := ⟨hN, by rw [← hN]; exact HB.out.1⟩
    have hN48 : N ≤ 48 := HN.out.2
    have hb1 : (flatTs t).length ≤ 1073741824 := by omega
    have PL : Hid (∀ W, Kept W1 W → Calls Try.prog 8 #[.agg #[.slice ad nd qd, .slice at' nt qt]] W fun r w' => ∃ a q, r = .returned (.slice a N q) ∧ Hid (StsIn w' 0 w'.heap.size (flatTs t) (.slice a N q) ∧ Kept W w')) := fun W hW => by
      refine (list_any d t W _ _ (HU.out W hW).1 (HU.out W hW).2 hb1 HB.out.2).mono ?_
      rintro r w' ⟨v', rfl, h1, h2⟩
      obtain ⟨a4, q4, rfl, -⟩ := h1.open
      rw [hN] at h1 ⊢
      exact ⟨a4, q4, rfl, h1.mono (Rng.up (Nat.zero_le _) (Nat.le_refl _)), h2⟩
    have PM : Hid (∀ W, Kept W1 W → Calls Try.prog 16 #[.agg #[.slice ad nd qd, .slice at' nt qt]] W fun r w' => ∃ a q, r = .returned (.slice a N q) ∧ Hid (StsIn w' 0 w'.heap.size (flatTs t) (.slice a N q) ∧ Kept W w')) := fun W hW => by
      refine (rlist_any d t W _ _ (HU.out W hW).1 (HU.out W hW).2 hb1).mono ?_
      rintro r w' ⟨v', rfl, h1, h2⟩
      obtain ⟨a4, q4, rfl, -⟩ := h1.open
      rw [hN] at h1 ⊢
      exact ⟨a4, q4, rfl, h1, h2⟩
    have PT : Hid (∀ W, Kept W1 W → Calls Try.prog 9 #[.agg #[.slice ad nd qd, .slice at' nt qt]] W fun r w' => ∃ a q, r = .returned (.slice a N q) ∧ Hid (ValsD w' (Rng 0 w'.heap.size) (thrs 0 t) (.slice a N q) ∧ Kept W w')) := fun W hW => by
      refine (threads_any d t W _ _ (HU.out W hW).1 (HU.out W hW).2 hb1 HB.out.2).mono ?_
      rintro r w' ⟨v', rfl, h1, h2⟩
      obtain ⟨a5, q5, rfl, -⟩ := h1.open
      rw [thrs_len, hN] at h1 ⊢
      exact ⟨a5, q5, rfl, h1.mono (Rng.up (Nat.zero_le _) (Nat.le_refl _)), h2⟩
    have PO : Hid (∀ W, Kept W1 W → Calls Try.prog 17 #[.agg #[.slice ad nd qd, .slice at' nt qt]] W fun r w' => ∃ a q, r = .returned (.slice a N q) ∧ Hid (ValsD w' (Rng 0 w'.heap.size) (thrs 0 t) (.slice a N q) ∧ Kept W w')) := fun W hW => by
      refine (rthreads_any d t W _ _ (HU.out W hW).1 (HU.out W hW).2 hb1).mono ?_
      rintro r w' ⟨v', rfl, h1, h2⟩
      obtain ⟨a5, q5, rfl, -⟩ := h1.open
      rw [thrs_len, hN] at h1 ⊢
      exact ⟨a5, q5, rfl, h1.mono (Rng.up (Nat.zero_le _) (Nat.le_refl _)), h2⟩
    clear hN hb1
    go_wp2_with fail
    refine (PL.out _ HKc.out).mono ?_
    rintro r w4 ⟨a4, q4, rfl, H4⟩
    have K4 : Hid (Kept W1 w4) := HKc.out.then H4.out.2
    have c04 := K4.out.cellS c0
    have c14 := K4.out.cellS c1
    go_wp2_with fail
    refine (PM.out _ K4.out).mono ?_
    rintro r w5 ⟨a5, q5, rfl, H5⟩
    have K5 : Hid (Kept W1 w5) := K4.out.then H5.out.2
    have c05 := K5.out.cellS c0
    have c15 := K5.out.cellS c1
    go_wp2_with fail
    refine (PT.out _ K5.out).mono ?_
    rintro r w6 ⟨a6, q6, rfl, H6⟩
    have K6 : Hid (Kept W1 w6) := K5.out.then H6.out.2
    have c06 := K6.out.cellS c0
    have c16 := K6.out.cellS c1
    go_wp2_with fail
    refine (PO.out _ K6.out).mono ?_
    rintro r w7 ⟨a7, q7, rfl, H7⟩
    have K7 : Hid (Kept W1 w7) := K6.out.then H7.out.2
    have c07 := K7.out.cellS c0
    have c17 := K7.out.cellS c1
    have HL : Hid (StsIn w7 0 w7.heap.size (flatTs t) (.slice a4 N q4) ∧ StsIn w7 0 w7.heap.size (flatTs t) (.slice a5 N q5)) := ⟨H4.out.1.up (Nat.le_refl _) (H5.out.2.then (H6.out.2.then H7.out.2)), H5.out.1.up (Nat.le_refl _) (H6.out.2.then H7.out.2)⟩
    have HV : Hid (ValsD w7 (Rng 0 w7.heap.size) (thrs 0 t) (.slice a6 N q6) ∧ ValsD w7 (Rng 0 w7.heap.size) (thrs 0 t) (.slice a7 N q7)) := ⟨(H6.out.1.stays (H7.out.2.stays (Nat.le_refl _))).mono (Rng.up (Nat.le_refl _) H7.out.2.size), H7.out.1⟩
    clear e0 e1' c04 c14 c05 c15 c06 c16 H4 H5 H6 H7 PL PM PT PO K4 K5 K6
    have eN : ((N : Int) != (N : Int)) = false := by simp
    go_wp2_with fail
    go_loopw [69] (fun i wr => ∃ J : Nat, i = .int .i64 (J : Int) ∧ J ≤ N ∧ Hid (Kept w7 wr)) (fun i _ => N - (intOf i).toNat)
    case atStart => exact ⟨0, rfl, Nat.zero_le _, Kept.refl _⟩
    case round =>
      obtain ⟨J, rfl, hJ, HJ⟩ := hrel
      by_cases hlt : J < N
      · have hJi : (J : Int) < (N : Int) := by omega
        have hJf : J < (flatTs t).length := by have := HN.out.1; omega
        have hJt : J < (thrs 0 t).length := by rw [thrs_len]; exact hJf
        have hJ4 : (J : Int) + 1 ≤ (q4 : Int) := by
          obtain ⟨a, q, e, h1, h2, h3⟩ := HL.out.1.open
          cases e
          omega
        have hJ5 : (J : Int) + 1 ≤ (q5 : Int) := by
          obtain ⟨a, q, e, h1, h2, h3⟩ := HL.out.2.open
          cases e
          omega
        obtain ⟨x, hx⟩ : ∃ x, (flatTs t)[J] = x := ⟨_, rfl⟩
        have hgood := HG.out.item x (by rw [← hx]; exact List.getElem_mem _)
        obtain ⟨b4, o4, e1, f1, g1, e2, f2, g2, e3, f3, g3, rfl, _, hb4, _, y0, y1, y2, y3, y4, y5, y6, y7, y8, y9, y10, k1, k2, k3⟩ := (HL.out.1.up (Nat.le_refl _) HJ.out).item (StaysD.refl _ _) J hJf
        rw [hx] at y0 y1 y2 y3 y4 y5 y6 y10 k1 k2 k3
        obtain ⟨K, hK⟩ := thrs_int t J hJt
        obtain ⟨b6, o6, rfl, -, z6⟩ := HV.out.1.itemD J hJt
        obtain ⟨b7, o7, rfl, -, z7⟩ := HV.out.2.itemD J hJt
        rw [hK] at z6 z7
        have z6' := HJ.out.cellS z6
        have z7' := HJ.out.cellS z7
        have PSB : Hid (∀ W, Kept wr W → Calls Try.prog 18 #[.slice (cutAt (some ⟨b4, o4, none⟩) J q4 11) 1 (q4 - J), .slice (cutAt a5 J q5 11) 1 (q5 - J)] W fun r w' => r = .returned (.bool true) ∧ Hid (Kept wr w')) := fun W hW => by
          refine (rsameBlock_any _ _ W _ _ ((HL.out.1.cut1 J hJf).up (Nat.le_refl _) (HJ.out.then hW)) ((HL.out.2.cut1 J hJf).up (Nat.le_refl _) (HJ.out.then hW))).mono ?_
          rintro r w' ⟨rfl, h⟩
          rw [St.sames_refl]
          exact ⟨rfl, hW.then h⟩
        have PTo : Hid (∀ W, Kept wr W → Calls Try.prog 12 #[.agg #[.int .i64 x.kind, .string x.name, .string x.other, .int .i64 x.n, .int .i64 x.e.kind, .int .i64 x.e.n, .string x.e.name, .slice e1 f1 g1, .slice e2 f2 g2, .slice e3 f3 g3, .complex .f64 x.re x.im]] W fun r w' => ∃ a n q, r = .returned (.slice a n q) ∧ Hid (Kept wr w' ∧ Kept W w' ∧ Lasts w' x.touches (.slice a n q))) := fun W hW => by
          refine (touches_any x W _ _ _ (k1.up (Nat.le_refl _) hW) (k2.up (Nat.le_refl _) hW) (k3.up (Nat.le_refl _) hW) (by omega)).mono ?_
          rintro r w' ⟨v', rfl, h1, h2⟩
          obtain ⟨a, cap, rfl, -⟩ := h1.open
          exact ⟨_, _, _, rfl, hW.then h2, h2, fun W' hW' => (h1.stays (hW'.stays (Nat.le_refl _))).mono (Rng.up (Nat.zero_le _) hW'.size)⟩
        have PRo : Hid (∀ W, Kept wr W → Calls Try.prog 20 #[.agg #[.int .i64 x.kind, .string x.name, .string x.other, .int .i64 x.n, .int .i64 x.e.kind, .int .i64 x.e.n, .string x.e.name, .slice e1 f1 g1, .slice e2 f2 g2, .slice e3 f3 g3, .complex .f64 x.re x.im]] W fun r w' => ∃ a n q, r = .returned (.slice a n q) ∧ Hid (Kept wr w' ∧ Kept W w' ∧ Lasts w' x.touches (.slice a n q))) := fun W hW => by
          refine (rtouches_any x W _ _ _ (k1.up (Nat.le_refl _) hW) (k2.up (Nat.le_refl _) hW) (k3.up (Nat.le_refl _) hW) (by omega)).mono ?_
          rintro r w' ⟨v', rfl, h1, h2⟩
          obtain ⟨a, cap, rfl, -⟩ := h1.open
          exact ⟨_, _, _, rfl, hW.then h2, h2, fun W' hW' => (h1.stays (hW'.stays (Nat.le_refl _))).mono (Rng.up (Nat.zero_le _) hW'.size)⟩
        have PNa : Hid (∀ W, Kept wr W → Calls Try.prog 21 #[.agg #[.int .i64 x.e.kind, .int .i64 x.e.n, .string x.e.name, .slice e1 f1 g1]] W fun r w' => ∃ a n q, r = .returned (.slice a n q) ∧ Hid (Kept wr w' ∧ Kept W w' ∧ Lasts w' x.e.names (.slice a n q))) := fun W hW => by
          refine (names_any x.e W _ (k1.up (Nat.le_refl _) hW) (by omega)).mono ?_
          rintro r w' ⟨v', rfl, h0, h2⟩
          have h1 := h0.vals
          obtain ⟨a, cap, rfl, -⟩ := h1.open
          exact ⟨_, _, _, rfl, hW.then h2, h2, fun W' hW' => (h1.stays (hW'.stays (Nat.le_refl _))).mono (Rng.up (Nat.zero_le _) hW'.size)⟩
        have PRa : Hid (∀ W, Kept wr W → Calls Try.prog 22 #[.agg #[.int .i64 x.e.kind, .int .i64 x.e.n, .string x.e.name, .slice e1 f1 g1]] W fun r w' => ∃ a n q, r = .returned (.slice a n q) ∧ Hid (Kept wr w' ∧ Kept W w' ∧ Lasts w' x.e.names (.slice a n q))) := fun W hW => by
          refine (rnames_any x.e W _ (k1.up (Nat.le_refl _) hW) (by omega)).mono ?_
          rintro r w' ⟨v', rfl, h0, h2⟩
          have h1 := h0.vals
          obtain ⟨a, cap, rfl, -⟩ := h1.open
          exact ⟨_, _, _, rfl, hW.then h2, h2, fun W' hW' => (h1.stays (hW'.stays (Nat.le_refl _))).mono (Rng.up (Nat.zero_le _) hW'.size)⟩
        have PTx : Hid (∀ W L va vb, Kept wr W → ValsD W (Rng 0 W.heap.size) (strs L) va → ValsD W (Rng 0 W.heap.size) (strs L) vb → Calls Try.prog 19 #[va, vb] W fun r w' => r = .returned (.bool true) ∧ Hid (Kept wr w')) := fun W L va vb hW h1 h2 => by
          refine (sameTexts_any L W va vb h1 h2).mono ?_
          rintro r w' ⟨rfl, h⟩
          exact ⟨rfl, hW.then h⟩
        have SS : Hid (∀ w', Kept wr w' → Hid (Kept wr w') ∧ w'.cell? ⟨b4, o4 + J * 11, none⟩ = some (.int .i64 x.kind) ∧ w'.cell? ⟨b4, o4 + J * 11 + 1, none⟩ = some (.string x.name) ∧ w'.cell? ⟨b4, o4 + J * 11 + 2, none⟩ = some (.string x.other) ∧ w'.cell? ⟨b4, o4 + J * 11 + 3, none⟩ = some (.int .i64 x.n) ∧ w'.cell? ⟨b4, o4 + J * 11 + 4, none⟩ = some (.int .i64 x.e.kind) ∧ w'.cell? ⟨b4, o4 + J * 11 + 5, none⟩ = some (.int .i64 x.e.n) ∧ w'.cell? ⟨b4, o4 + J * 11 + 6, none⟩ = some (.string x.e.name) ∧ w'.cell? ⟨b4, o4 + J * 11 + 7, none⟩ = some (.slice e1 f1 g1) ∧ w'.cell? ⟨b4, o4 + J * 11 + 8, none⟩ = some (.slice e2 f2 g2) ∧ w'.cell? ⟨b4, o4 + J * 11 + 9, none⟩ = some (.slice e3 f3 g3) ∧ w'.cell? ⟨b4, o4 + J * 11 + 10, none⟩ = some (.complex .f64 x.re x.im) ∧ w'.cell? ⟨b6, o6 + J, none⟩ = some (.int .i64 K) ∧ w'.cell? ⟨b7, o7 + J, none⟩ = some (.int .i64 K)) := fun w' KK => ⟨KK, KK.cellS y0, KK.cellS y1, KK.cellS y2, KK.cellS y3, KK.cellS y4, KK.cellS y5, KK.cellS y6, KK.cellS y7, KK.cellS y8, KK.cellS y9, KK.cellS y10, KK.cellS z6', KK.cellS z7'⟩
        have eKK : (K != K) = false := by simp
        have hwJ1 : IntKind.i64.wrap ((J : Int) + 1) = (J : Int) + 1 := wrap_nat (J + 1) (by omega)
        clear hK hx hgood k1 k2 k3 z6 z7 hJt hJf
        go_wp2_with fail
        go_region_held3 (fun w' => Hid (Kept wr w') ∧ w'.cell? ⟨b4, o4 + J * 11, none⟩ = some (.int .i64 x.kind) ∧ w'.cell? ⟨b4, o4 + J * 11 + 1, none⟩ = some (.string x.name) ∧ w'.cell? ⟨b4, o4 + J * 11 + 2, none⟩ = some (.string x.other) ∧ w'.cell? ⟨b4, o4 + J * 11 + 3, none⟩ = some (.int .i64 x.n) ∧ w'.cell? ⟨b4, o4 + J * 11 + 4, none⟩ = some (.int .i64 x.e.kind) ∧ w'.cell? ⟨b4, o4 + J * 11 + 5, none⟩ = some (.int .i64 x.e.n) ∧ w'.cell? ⟨b4, o4 + J * 11 + 6, none⟩ = some (.string x.e.name) ∧ w'.cell? ⟨b4, o4 + J * 11 + 7, none⟩ = some (.slice e1 f1 g1) ∧ w'.cell? ⟨b4, o4 + J * 11 + 8, none⟩ = some (.slice e2 f2 g2) ∧ w'.cell? ⟨b4, o4 + J * 11 + 9, none⟩ = some (.slice e3 f3 g3) ∧ w'.cell? ⟨b4, o4 + J * 11 + 10, none⟩ = some (.complex .f64 x.re x.im) ∧ w'.cell? ⟨b6, o6 + J, none⟩ = some (.int .i64 K) ∧ w'.cell? ⟨b7, o7 + J, none⟩ = some (.int .i64 K))
          (first
            | exact SS.out _ h8.out
            | exact SS.out _ h7.out.1
            | exact SS.out _ h6.out.1
            | exact SS.out _ h5.out
            | exact SS.out _ h4.out.1
            | exact SS.out _ h3.out.1
            | exact SS.out _ h2.out
            | exact SS.out _ ((Kept.refl wr).dr))
          (first
            | (go_at_call 18; refine (PSB.out _ ((Kept.refl wr).dr)).mono ?_; rintro e v2 ⟨rfl, h2⟩)
            | (go_at_call 12; refine (PTo.out _ h4.out.1).mono ?_; rintro e v3 ⟨s1, s2, s3, rfl, h3⟩)
            | (go_at_call 12; refine (PTo.out _ h2.out).mono ?_; rintro e v3 ⟨s1, s2, s3, rfl, h3⟩)
            | (go_at_call 20; refine (PRo.out _ h3.out.1).mono ?_; rintro e v4 ⟨t1, t2, t3, rfl, h4⟩)
            | (go_at_call 20; refine (PRo.out _ h2.out).mono ?_; rintro e v4 ⟨t1, t2, t3, rfl, h4⟩)
            | (go_at_call_of 19 (Value.slice s1 s2 s3); refine (PTx.out _ x.touches _ _ h4.out.1 (h3.out.2.2 _ h4.out.2.1) (h4.out.2.2 _ (Kept.refl _))).mono ?_; rintro e v5 ⟨rfl, h5⟩)
            | (go_at_call_of 19 (Value.slice s1 s2 s3); refine (PTx.out _ x.touches _ _ h3.out.1 (h3.out.2.2 _ (Kept.refl _)) (h4.out.2.2 _ h3.out.2.1)).mono ?_; rintro e v5 ⟨rfl, h5⟩)
            | (go_at_call 21; refine (PNa.out _ h7.out.1).mono ?_; rintro e v6 ⟨m1, m2, m3, rfl, h6⟩)
            | (go_at_call 21; refine (PNa.out _ h5.out).mono ?_; rintro e v6 ⟨m1, m2, m3, rfl, h6⟩)
            | (go_at_call 22; refine (PRa.out _ h6.out.1).mono ?_; rintro e v7 ⟨p1, p2, p3, rfl, h7⟩)
            | (go_at_call 22; refine (PRa.out _ h5.out).mono ?_; rintro e v7 ⟨p1, p2, p3, rfl, h7⟩)
            | (go_at_call_of 19 (Value.slice m1 m2 m3); refine (PTx.out _ x.e.names _ _ h7.out.1 (h6.out.2.2 _ h7.out.2.1) (h7.out.2.2 _ (Kept.refl _))).mono ?_; rintro e v8 ⟨rfl, h8⟩)
            | (go_at_call_of 19 (Value.slice m1 m2 m3); refine (PTx.out _ x.e.names _ _ h6.out.1 (h6.out.2.2 _ (Kept.refl _)) (h7.out.2.2 _ h6.out.2.1)).mono ?_; rintro e v8 ⟨rfl, h8⟩))
        all_goals
          rename_i hH
          clear hH
          have HJ2 : Hid (Kept w7 v8) := HJ.out.then h8.out
          clear PSB PTo PRo PNa PRa PTx SS h2 h3 h4 h5 h6 h7
          go_wp2_with fail
          go_roundw
          case rel => exact ⟨J + 1, by go_num, by omega, HJ2⟩
          case measure => simp [intOf]; omega
      · have hJi : ¬ (J : Int) < (N : Int) := by omega
        have k0 := HJ.out.cellS c07
        have k1 := HJ.out.cellS c17
        have KR : Hid (Kept W1 wr) := K7.out.then HJ.out
        have PC : Hid (∀ W, Kept wr W → Calls Try.prog 11 #[.agg #[.slice ad nd qd, .slice at' nt qt]] W fun r w' => ∃ a n q a' n' q', r = .returned (.agg #[.slice a n q, .slice a' n' q']) ∧ Hid (Kept wr w' ∧ Kept W w' ∧ DsIn w' 0 w'.heap.size d (.slice a n q) ∧ TsIn w' 0 w'.heap.size t (.slice a' n' q'))) := fun W hW => by
          have hu := HU.out W (KR.out.then hW)
          refine (copy_any d t W _ _ hu.1 hu.2 (by have := HG.out.dl.1; omega) (by have := HG.out.three; omega) HB.out.2).mono ?_
          rintro r w' ⟨dv', tv', M, rfl, m1, m2, h1, h2, h3⟩
          obtain ⟨a, cap, rfl, -⟩ := h2.open
          obtain ⟨a', cap', rfl, -⟩ := h1.open
          exact ⟨_, _, _, _, _, _, rfl, hW.then h3, h3, h2.mono (Rng.up (Nat.zero_le _) (Nat.le_refl _)), h1.mono (Rng.up (Nat.zero_le _) m2)⟩
        have PZ : Hid (∀ W a n q a' n' q', Kept wr W → DsIn W 0 W.heap.size d (.slice a n q) → TsIn W 0 W.heap.size t (.slice a' n' q') → Calls Try.prog 15 #[.agg #[.slice a n q, .slice a' n' q'], .agg #[.slice ad nd qd, .slice at' nt qt]] W fun r w' => r = .returned (.bool true) ∧ Hid (Kept wr w')) := fun W a n q a' n' q' hW h1 h2 => by
          have hu := HU.out W (KR.out.then hW)
          refine (rsame_any d d t t W _ _ _ _ h1 h2 hu.1 hu.2).mono ?_
          rintro r w' ⟨rfl, h⟩
          rw [Dc.sames_refl, sameTs_refl]
          exact ⟨rfl, hW.then h⟩
        have SS : Hid (∀ w', Kept wr w' → Hid (Kept wr w') ∧ w'.cell? ⟨w1.heap.size, 0, none⟩ = some (.slice ad nd qd) ∧ w'.cell? ⟨w1.heap.size, 1, none⟩ = some (.slice at' nt qt)) := fun w' KK => ⟨KK, KK.cellS k0, KK.cellS k1⟩
        go_wp2_with fail
        go_region_held3 (fun w' => Hid (Kept wr w') ∧ w'.cell? ⟨w1.heap.size, 0, none⟩ = some (.slice ad nd qd) ∧ w'.cell? ⟨w1.heap.size, 1, none⟩ = some (.slice at' nt qt))
          (first
            | exact SS.out _ h8.out
            | exact SS.out _ h7.out.1
            | exact SS.out _ ((Kept.refl wr).dr))
          (first
            | (go_at_call 11; refine (PC.out _ ((Kept.refl wr).dr)).mono ?_; rintro e v7 ⟨s1, s2, s3, s4, s5, s6, rfl, h7⟩)
            | (go_at_call 15; refine (PZ.out _ _ _ _ _ _ _ h7.out.1 h7.out.2.2.1 h7.out.2.2.2).mono ?_; rintro e v8 ⟨rfl, h8⟩))
        all_goals
          rename_i hH
          clear hH
          go_wp2_with fail
          go_ret
          exact ⟨rfl, hKW.out.then (KR.out.then h8.out)⟩
#print axioms treeTells_any
end Go.Proofs.Ytoaaikbplnpmmaa
