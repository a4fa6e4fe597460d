/- ParseShown: a program that is shown is read as it is. -/
import Derived.Test.YteaopephdjoegaaGreatDoorPz
import Derived.Test.YteaopephdjoegaaGreatDoorSh
import Derived.Test.YteaopephdjoegaaGreatDoorSn
import Derived.Test.YteaopephdjoegaaGreatDoorR4
import Derived.Test.YteaopephdjoegaaGreatDoorKn5
namespace Go.Proofs.YteaopephdjoegaaGreatDoor
open Go.RowKit
attribute [local go_sem] run_store_complex

/-- A program of the maker's, as text: how long, what it is read as. -/
theorem made_out {d : List Dc} {t : List (List St)} {most : Int} {nc : Nat} (hg : GoodP d t most nc) :
    (Ps.shown d t).length ≤ 3653 ∧ ∃ d' t' q, Pp.out (Px.ba (Ps.shown d t)) = (some (d', t'), q) ∧ Dc.sames d d' = true ∧ sameTs t t' = true := by
  have h1 := Ps.shown_len (e := 2) (by decide) d t hg.dl.2 fun b hb => hg.ok b hb
  have h2 := hg.dl.1
  have h3 := hg.three
  have h4 := hg.two
  have hl : (Ps.shown d t).length ≤ 3653 := by omega
  refine ⟨hl, ?_⟩
  obtain ⟨d', t', q, e1, e2, e3⟩ := Ps.out_shown (e := 2) (by decide) d t (by omega) hg.dl.2 (fun b hb => (hg.ok b hb).1) (by omega) (by rintro rfl; simp at h4) (by omega)
  exact ⟨d', t', q, e1, Dc.sames_strips d d' e2.symm, sameTs_strips t t' e3.symm⟩

set_option maxRecDepth 100000 in
set_option maxHeartbeats 4000000 in
theorem parseShown_row (how : Int) (la lb lc : List Ac) (va vb vc : Value) (w : World) (hh1 : -9223372036854775808 ≤ how) (hh2 : how ≤ 9223372036854775807) (ha : ActsR w w.heap.size la va) (hb : ActsR w w.heap.size lb vb) (hc : ActsR w w.heap.size lc vc) (hE : Er w) :
    Calls Tryz.prog 4 #[.int .i64 how, va, vb, vc] w fun e w' => e = .returned (.bool true) ∧ Kept w w' := by
  have HP : Hid _ := prog_any how la lb lc va vb vc 4 w hh1 hh2 ha hb hc (by omega) (by omega)
  have HE : Hid (Er w) := hE
  obtain ⟨a1, q1, rfl, x1, x2, -⟩ := ha.out
  obtain ⟨a2, q2, rfl, x3, x4, -⟩ := hb.out
  obtain ⟨a3, q3, rfl, x5, x6, -⟩ := hc.out
  clear ha hb hc x1 x2 x3 x4 x5 x6 hE hh1 hh2
  go_enter Tryz.func4, Tryz.ntmps4
  go_wp2_with fail
  refine Calls.mono HP.out ?_
  rintro e w1 ⟨d, t, ad, nd, qd, at', nt, qt, rfl, HM⟩
  obtain ⟨hds, hts, hg, hk⟩ := HM.out
  obtain ⟨hl, d', t', q, ho, hs1, hs2⟩ := made_out hg
  have SH : Hid (∀ W, Kept w1 W → Calls Tryz.prog 14 #[.agg #[.slice ad nd qd, .slice at' nt qt]] W fun r w' => r = .returned (.string (Px.ba (Ps.shown d t))) ∧ Kept W w') :=
    fun W hW => showp_any 2 (by decide) d t hg.dl.2 (fun b hb => (hg.ok b hb).1) (by omega) W _ _ (hds.up (Nat.le_refl _) hW) (hts.up (Nat.le_refl _) hW)
  have RD : Hid (∀ W, Kept w W → Calls Tryz.prog 7 #[.string (Px.ba (Ps.shown d t))] W fun e w' => GotR (Px.ba (Ps.shown d t)) W (some (d', t')) q e w') :=
    fun W hW => pread_any _ (by rw [Px.ba_size]; omega) W (HE.out.kept hW) _ _ ho
  have SM : Hid (∀ W dv tv, Kept w1 W → DsIn W 0 W.heap.size d' dv → TsIn W 0 W.heap.size t' tv → Calls Tryz.prog 10 #[.agg #[.slice ad nd qd, .slice at' nt qt], .agg #[dv, tv]] W fun e w' => e = .returned (.bool true) ∧ Kept W w') := fun W dv tv hW h1 h2 => by
    have := rsame_any d d' t t' W _ _ dv tv (hds.up (Nat.le_refl _) hW) (hts.up (Nat.le_refl _) hW) h1 h2
    rwa [hs1, hs2] at this
  have HK : Hid (Kept w w1) := hk
  generalize Px.ba (Ps.shown d t) = S at *
  clear hds hts hg hk hl ho hs1 hs2 HP HM
  go_wp2_with fail
  refine (SH.out _ ((Kept.refl _).al _)).mono ?_
  rintro e w2 ⟨rfl, k2⟩
  have K12 : Hid (Kept w1 w2) := ((Kept.refl w1).al _).then k2
  have c0 : w2.cell? ⟨w1.heap.size, 0, none⟩ = some (.slice ad nd qd) := k2.cellS (by simp)
  have c1 : w2.cell? ⟨w1.heap.size, 1, none⟩ = some (.slice at' nt qt) := k2.cellS (by simp)
  clear k2 SH
  go_wp2_with fail
  refine (RD.out _ (HK.out.then K12.out)).mono ?_
  rintro e w3 ⟨b1, m1, p1, b2, m2, p2, X, Y, E, rfl, H⟩
  obtain ⟨k3, -, hv⟩ := unhide H
  obtain ⟨rfl, rfl, rfl, hd, ht⟩ := hv _ _ rfl
  have K13 : Hid (Kept w1 w3) := K12.out.then k3
  have c0 := k3.cellS c0
  have c1 := k3.cellS c1
  have HV : Hid (DsIn w3 w2.heap.size w3.heap.size d' (.slice b1 m1 p1) ∧ TsIn w3 w2.heap.size w3.heap.size t' (.slice b2 m2 p2)) := ⟨hd, ht⟩
  have KN : Hid (∀ W, Kept w W → Calls Tryz.prog 9 #[] W fun e w' => e = .returned (.bool true) ∧ Kept W w') := fun W hW => known_any W (HE.out.kept hW)
  clear k3 hv hd ht H RD
  go_wp2_with fail
  refine (KN.out _ ((HK.out.then K13.out).al _)).mono ?_
  rintro e w4 ⟨rfl, k4⟩
  have K34 : Hid (Kept w3 w4) := ((Kept.refl w3).al _).then k4
  have c0 := K34.out.cellS c0
  have c1 := K34.out.cellS c1
  have d0 : w4.cell? ⟨w3.heap.size, 0, none⟩ = some (.slice b1 m1 p1) := k4.cellS (by simp)
  have d1 : w4.cell? ⟨w3.heap.size, 1, none⟩ = some (.slice b2 m2 p2) := k4.cellS (by simp)
  clear k4 KN
  go_wp2_with fail
  refine (SM.out _ _ _ (K13.out.then K34.out) (HV.out.1.up (Nat.le_refl _) K34.out) (HV.out.2.up (Nat.le_refl _) K34.out)).mono ?_
  rintro e w5 ⟨rfl, k5⟩
  have KF : Hid (Kept w w5) := (HK.out.then (K13.out.then K34.out)).then k5
  clear k5
  go_wp2_with fail
  go_ret
  exact ⟨rfl, KF.out⟩
#print axioms parseShown_row
end Go.Proofs.YteaopephdjoegaaGreatDoor
