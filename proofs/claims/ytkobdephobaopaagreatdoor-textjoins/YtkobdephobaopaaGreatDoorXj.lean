/- TextJoins: the text of a program with one thread more is its text, and that thread's. -/
import Derived.Test.YtkobdephobaopaaGreatDoorSmA
import Derived.Test.YtkobdephobaopaaGreatDoorXc
import Derived.Test.YtkobdephobaopaaGreatDoorXB
import Derived.Deep.RegionHeld3
namespace Go.Proofs.YtkobdephobaopaaGreatDoor
open Go.RowKit
open Ps.Pu (printP made_print)
attribute [local go_sem] run_store_complex
attribute [local go_sem ↓] add_fit cut_t1 cut_th1

theorem beq_data (A B : ByteArray) (h : A = B) : (A.toList == B.toList) = true := by subst h; simp

set_option maxRecDepth 100000 in
set_option maxHeartbeats 4000000 in
theorem textJoins_row (how : Int) (la lb : List Ac) (va vb : Value) (w : World) (hh1 : -9223372036854775808 ≤ how) (hh2 : how ≤ 9223372036854775807) (ha : ActsR w w.heap.size la va) (hb : ActsR w w.heap.size lb vb) (hE : Env w) :
    Calls Tryz.prog 8 #[.int .i64 how, va, vb] w fun e w' => e = .returned (.bool true) ∧ Kept w w' := by
  have HP : Hid _ := prog_any how la lb [] va vb (.slice none 0 0) 4 w hh1 hh2 ha hb (acts_nil _ _) (by omega) (by omega)
  have HE : Hid (Env w) := hE
  obtain ⟨a1, q1, rfl, x1, x2, -⟩ := ha.out
  obtain ⟨a2, q2, rfl, x3, x4, -⟩ := hb.out
  clear ha hb x1 x2 x3 x4 hE hh1 hh2
  go_enter Tryz.func8, Tryz.ntmps8
  go_wp2_with fail
  refine Calls.mono HP.out ?_
  rintro e w1 ⟨d, t, ad, nd, qd, at', nt, qt, rfl, HM⟩
  obtain ⟨hds, hts, hg, hk⟩ := HM.out
  have hlen : t.length = 2 := hg.just (.inr rfl)
  obtain ⟨t0, t1, rfl⟩ : ∃ t0 t1, t = [t0, t1] := by
    match t, hlen with
    | [t0, t1], _ => exact ⟨t0, t1, rfl⟩
  obtain ⟨_, _, et, hl1, hl2, hl3⟩ := hts.open
  injection et with e6 e7 e8
  obtain rfl : nt = 2 := e7
  subst e8
  have g1 : (1 : Int) ≤ (qt : Int) := by have : 2 ≤ qt := hl2; omega
  have g2 : (1 : Int) ≤ ((2 : Nat) : Int) := by omega
  have hd8 := hg.dl.1
  have HK : Hid (Kept w w1) := hk
  obtain ⟨wC, pC, lC⟩ := made_print (d := d) (t := [t0, t1]) hg.dl.2 (by omega) hg.ok (by simp) (by simp)
  obtain ⟨wA, pA, lA⟩ := made_print (d := d) (t := [t0]) hg.dl.2 (by omega) (fun b hb => hg.ok b (by simp at hb; simp [hb])) (by simp) (by simp)
  obtain ⟨wB, pB, lB⟩ := made_print (d := []) (t := [t1]) (fun x hx => by cases hx) (by simp) (fun b hb => hg.ok b (by simp at hb; simp [hb])) (by simp) (by simp)
  have hds0 : DsIn w1 0 w1.heap.size d (.slice ad nd qd) := hds.mono fun k hk => ⟨Nat.zero_le _, hk.2⟩
  have hts0 : TsIn w1 0 w1.heap.size [t0, t1] (.slice at' 2 qt) := hts.mono fun k hk => ⟨Nat.zero_le _, hk.2⟩
  have SC : Hid (∀ W, Kept w1 W → Calls Tryz.prog 17 #[.agg #[.slice ad nd qd, .slice at' 2 qt]] W fun r w' => r = .returned (.string (Px.ba (Ps.shown d [t0, t1]))) ∧ Kept W w') := fun W hW => by
    have := tprint_any d [t0, t1] W _ _ (hds0.up (Nat.le_refl _) hW) (hts0.up (Nat.le_refl _) hW) wC (HE.out.kept (HK.out.then hW))
    rwa [pC] at this
  have SR : Hid (∀ W, Kept w1 W → Calls Tryz.prog 18 #[.agg #[.slice ad nd qd, .slice at' 2 qt]] W fun r w' => r = .returned (.bool true) ∧ Kept W w') := fun W hW =>
    tright_any d [t0, t1] W _ _ (hds0.up (Nat.le_refl _) hW) (hts0.up (Nat.le_refl _) hW) wC (HE.out.kept (HK.out.then hW)) true (by
      rw [pC]
      have h1 : Ps.shown d [t0, t1] ≠ [] := by unfold Ps.shown Ps.ttexts; simp [Ps.ttext]
      cases hh : Ps.shown d [t0, t1] with
      | nil => exact absurd hh h1
      | cons _ _ => rfl)
  have SA : Hid (∀ W, Kept w1 W → Calls Tryz.prog 17 #[.agg #[.slice ad nd qd, .slice (cutAt at' 0 qt 1) 1 qt]] W fun r w' => r = .returned (.string (Px.ba (Ps.shown d [t0]))) ∧ Kept W w') := fun W hW => by
    have := tprint_any d [t0] W _ _ (hds0.up (Nat.le_refl _) hW) (hts0.head.up (Nat.le_refl _) hW) wA (HE.out.kept (HK.out.then hW))
    rwa [pA] at this
  have SB : Hid (∀ W, Kept w1 W → Calls Tryz.prog 17 #[.agg #[.slice none 0 0, .slice (cutAt at' 1 qt 1) 1 (qt - 1)]] W fun r w' => r = .returned (.string (Px.ba (Ps.shown [] [t1]))) ∧ Kept W w') := fun W hW => by
    have := tprint_any [] [t1] W _ _ (DsD.nil _ _) (hts0.last.up (Nat.le_refl _) hW) wB (HE.out.kept (HK.out.then hW))
    rwa [pB] at this
  have KN : Hid (∀ W, Kept w1 W → Calls Tryz.prog 16 #[] W fun e w' => e = .returned (.bool true) ∧ Kept W w') := fun W hW => known6_any W (HE.out.kept (HK.out.then hW))
  have hAB : Px.ba (Ps.shown d [t0]) ++ Px.ba (Ps.shown [] [t1]) = Px.ba (Ps.shown d [t0, t1]) := by rw [Px.ba_app, Ps.shown_split]
  have zA : (Px.ba (Ps.shown d [t0])).size ≤ 10000 := by rw [Px.ba_size]; omega
  have zB : (Px.ba (Ps.shown [] [t1])).size ≤ 10000 := by rw [Px.ba_size]; omega
  generalize Px.ba (Ps.shown d [t0]) = TA at *
  generalize Px.ba (Ps.shown [] [t1]) = TB at *
  generalize Px.ba (Ps.shown d [t0, t1]) = TC at *
  have ADD := addf TA TB (by omega)
  have EQ : (TC.toList == (TA ++ TB).toList) = true := beq_data _ _ hAB.symm
  clear hl1 hl2 hl3 e6 hlen hds hts hds0 hts0 hg hk HP HM wA wB wC pA pB pC lA lB lC hd8 zA zB hAB
  go_wp2_with fail
  obtain ⟨W0, hW0⟩ : ∃ W, ((w1.alloc (.cells #[.slice ad nd qd, .slice at' 2 qt] 27)).alloc (.cells #[.slice ad nd qd, .slice (cutAt at' 0 qt 1) 1 qt] 27)).alloc (.cells #[.slice none 0 0, .slice (cutAt at' 1 qt 1) 1 (qt - 1)] 27) = W := ⟨_, rfl⟩
  have K1 : Hid (Kept w1 W0) := by rw [← hW0]; exact (((Kept.refl _).al _).al _).al _
  have z1 : (w1.alloc (.cells #[.slice ad nd qd, .slice at' 2 qt] 27)).heap.size = w1.heap.size + 1 := by simp
  have z2 : ((w1.alloc (.cells #[.slice ad nd qd, .slice at' 2 qt] 27)).alloc (.cells #[.slice ad nd qd, .slice (cutAt at' 0 qt 1) 1 qt] 27)).heap.size = w1.heap.size + 1 + 1 := by rw [World.size_alloc, z1]
  have p0 : W0.cell? ⟨w1.heap.size, 0, none⟩ = some (.slice ad nd qd) := by rw [← hW0]; exact (((Kept.refl _).al _).al _).cellS (cell_new _ _ _ rfl 0 _ rfl)
  have p1 : W0.cell? ⟨w1.heap.size, 1, none⟩ = some (.slice at' 2 qt) := by rw [← hW0]; exact (((Kept.refl _).al _).al _).cellS (cell_new _ _ _ rfl 1 _ rfl)
  have q0 : W0.cell? ⟨w1.heap.size + 1, 0, none⟩ = some (.slice ad nd qd) := by rw [← hW0]; exact ((Kept.refl _).al _).cellS (cell_new _ _ _ z1 0 _ rfl)
  have q1 : W0.cell? ⟨w1.heap.size + 1, 1, none⟩ = some (.slice (cutAt at' 0 qt 1) 1 qt) := by rw [← hW0]; exact ((Kept.refl _).al _).cellS (cell_new _ _ _ z1 1 _ rfl)
  have r0 : W0.cell? ⟨w1.heap.size + 1 + 1, 0, none⟩ = some (.slice none 0 0) := by rw [← hW0]; exact cell_new _ _ _ z2 0 _ rfl
  have r1 : W0.cell? ⟨w1.heap.size + 1 + 1, 1, none⟩ = some (.slice (cutAt at' 1 qt 1) 1 (qt - 1)) := by rw [← hW0]; exact cell_new _ _ _ z2 1 _ rfl
  clear z1 z2
  rw [hW0]
  clear hW0
  generalize cutAt at' 0 qt 1 = aA at *
  generalize cutAt at' 1 qt 1 = aB at *
  generalize qt - 1 = qB at *
  generalize w1.heap.size + 1 + 1 = B9 at *
  generalize w1.heap.size + 1 = B8 at *
  generalize w1.heap.size = B7 at *
  have KN6 : Hid (∀ W, Kept W0 W → Calls Tryz.prog 16 #[] W fun r w' => r = .returned (.bool true) ∧ Hid (Kept W0 w')) := fun W hW => (KN.out W (K1.out.then hW)).mono fun r w' h => ⟨h.1, hW.then h.2⟩
  have SR6 : Hid (∀ W, Kept W0 W → Calls Tryz.prog 18 #[.agg #[.slice ad nd qd, .slice at' 2 qt]] W fun r w' => r = .returned (.bool true) ∧ Hid (Kept W0 w')) := fun W hW => (SR.out W (K1.out.then hW)).mono fun r w' h => ⟨h.1, hW.then h.2⟩
  have SC6 : Hid (∀ W, Kept W0 W → Calls Tryz.prog 17 #[.agg #[.slice ad nd qd, .slice at' 2 qt]] W fun r w' => r = .returned (.string TC) ∧ Hid (Kept W0 w')) := fun W hW => (SC.out W (K1.out.then hW)).mono fun r w' h => ⟨h.1, hW.then h.2⟩
  have SA6 : Hid (∀ W, Kept W0 W → Calls Tryz.prog 17 #[.agg #[.slice ad nd qd, .slice aA 1 qt]] W fun r w' => r = .returned (.string TA) ∧ Hid (Kept W0 w')) := fun W hW => (SA.out W (K1.out.then hW)).mono fun r w' h => ⟨h.1, hW.then h.2⟩
  have SB6 : Hid (∀ W, Kept W0 W → Calls Tryz.prog 17 #[.agg #[.slice none 0 0, .slice aB 1 qB]] W fun r w' => r = .returned (.string TB) ∧ Hid (Kept W0 w')) := fun W hW => (SB.out W (K1.out.then hW)).mono fun r w' h => ⟨h.1, hW.then h.2⟩
  have SS : Hid (∀ w', Kept W0 w' → Hid (Kept W0 w') ∧ w'.cell? ⟨B7, 0, none⟩ = some (.slice ad nd qd) ∧ w'.cell? ⟨B7, 1, none⟩ = some (.slice at' 2 qt) ∧ w'.cell? ⟨B8, 0, none⟩ = some (.slice ad nd qd) ∧ w'.cell? ⟨B8, 1, none⟩ = some (.slice aA 1 qt) ∧ w'.cell? ⟨B9, 0, none⟩ = some (.slice none 0 0) ∧ w'.cell? ⟨B9, 1, none⟩ = some (.slice aB 1 qB)) := fun w' KK => ⟨KK, KK.cellS p0, KK.cellS p1, KK.cellS q0, KK.cellS q1, KK.cellS r0, KK.cellS r1⟩
  clear SA SB SC SR KN
  go_region_held3 (fun w' => Hid (Kept W0 w') ∧ w'.cell? ⟨B7, 0, none⟩ = some (.slice ad nd qd) ∧ w'.cell? ⟨B7, 1, none⟩ = some (.slice at' 2 qt) ∧ w'.cell? ⟨B8, 0, none⟩ = some (.slice ad nd qd) ∧ w'.cell? ⟨B8, 1, none⟩ = some (.slice aA 1 qt) ∧ w'.cell? ⟨B9, 0, none⟩ = some (.slice none 0 0) ∧ w'.cell? ⟨B9, 1, none⟩ = some (.slice aB 1 qB))
    (first
      | exact SS.out _ hk5.out
      | exact SS.out _ hk4.out
      | exact SS.out _ hk3.out
      | exact SS.out _ hk2.out
      | exact SS.out _ hk1.out
      | exact SS.out _ ((Kept.refl W0).dr))
    (first
      | (go_at_call 16; refine (KN6.out _ ((Kept.refl W0).dr)).mono ?_; rintro e w7 ⟨rfl, hk1⟩)
      | (go_at_call 18; refine (SR6.out _ hk1.out).mono ?_; rintro e w8 ⟨rfl, hk2⟩)
      | (go_at_call_of 17 (Value.slice at' 2 qt); refine (SC6.out _ hk2.out).mono ?_; rintro e w9 ⟨rfl, hk3⟩)
      | (go_at_call_of 17 (Value.slice aA 1 qt); refine (SA6.out _ hk3.out).mono ?_; rintro e w10 ⟨rfl, hk4⟩)
      | (go_at_call_of 17 (Value.slice aB 1 qB); refine (SB6.out _ hk4.out).mono ?_; rintro e w11 ⟨rfl, hk5⟩))
  have KF : Hid (Kept w w11) := HK.out.then (K1.out.then hk5.out)
  go_wp2_with fail
  go_ret
  exact ⟨rfl, KF.out⟩
#print axioms textJoins_row
end Go.Proofs.YtkobdephobaopaaGreatDoor
