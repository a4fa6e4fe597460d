/- The reference: expressions that are alike. -/
import Derived.Test.YteaopephdjoegaaGreatDoorBs
import Derived.Deep.RegionHeld3
namespace Go.Proofs.YteaopephdjoegaaGreatDoor
open Go.RowKit

def PRef (x : Ex) : Prop := ∀ (y : Ex) (w : World) (va vb : Value), ExsIn w 0 w.heap.size x.of va → ExsIn w 0 w.heap.size y.of vb →
  Calls Tryz.prog 51 #[x.val va, y.val vb] w fun e w' => e = .returned (.bool (x.same y)) ∧ Kept w w'

set_option maxRecDepth 100000 in
set_option maxHeartbeats 1000000 in
theorem rsameExpr_of (x : Ex) (H : ∀ y ∈ x.of, PRef y) : PRef x := by
  intro y w va vb ha hb
  have HA : Hid _ := ha
  have HA' : Hid _ := hb
  have HH : Hid (∀ z ∈ x.of, PRef z) := H
  have HQ : Hid _ := Ex.same_eq x y
  obtain ⟨a, cap, rfl, hl, hl2, hcap⟩ := ha.open
  obtain ⟨a', cap', rfl, hl', hl2', hcap'⟩ := hb.open
  clear ha hb H
  unfold Ex.val
  cases h1 : (x.kind == y.kind) with
  | false =>
    rw [h1] at HQ
    have g1 : (x.kind != y.kind) = true := by rw [bne, h1]; rfl
    go_enter Tryz.func51, Tryz.ntmps51
    go_wp2_with fail
    go_ret
    exact ⟨ret_bool HQ.out.symm, ((Kept.refl _).al _).al _⟩
  | true =>
  rw [h1] at HQ
  have g1 : (x.kind != y.kind) = false := by rw [bne, h1]; rfl
  cases h2 : (x.n == y.n) with
  | false =>
    rw [h2] at HQ
    have g2 : (x.n != y.n) = true := by rw [bne, h2]; rfl
    go_enter Tryz.func51, Tryz.ntmps51
    go_wp2_with fail
    go_ret
    exact ⟨ret_bool HQ.out.symm, ((Kept.refl _).al _).al _⟩
  | true =>
  rw [h2] at HQ
  have g2 : (x.n != y.n) = false := by rw [bne, h2]; rfl
  cases h3 : (x.name.toList == y.name.toList) with
  | false =>
    rw [h3] at HQ
    go_enter Tryz.func51, Tryz.ntmps51
    go_wp2_with fail
    go_ret
    exact ⟨ret_bool HQ.out.symm, ((Kept.refl _).al _).al _⟩
  | true =>
  rw [h3] at HQ
  by_cases hlm : x.of.length = y.of.length
  · have e1 : ((x.of.length : Int) != (y.of.length : Int)) = false := by rw [hlm]; simp
    have HLM : Hid (x.of.length = y.of.length) := hlm
    have hlm' : y.of.length ≤ x.of.length := by omega
    clear hlm
    go_enter Tryz.func51, Tryz.ntmps51
    go_wp2_with fail
    obtain ⟨W0, hW0⟩ : ∃ W0, W0 = ((w.alloc (Obj.cells #[.int .i64 x.kind, .int .i64 x.n, .string x.name, .slice a x.of.length cap] 79)).alloc (Obj.cells #[.int .i64 y.kind, .int .i64 y.n, .string y.name, .slice a' y.of.length cap'] 79)) := ⟨_, rfl⟩
    have KW : Hid (Kept w W0) := by rw [hW0]; exact ((Kept.refl _).al _).al _
    have CW : Hid (W0.cell? ⟨w.heap.size, 3, none⟩ = some (.slice a x.of.length cap) ∧ W0.cell? ⟨w.heap.size + 1, 3, none⟩ = some (.slice a' y.of.length cap') ∧ w.heap.size + 2 = W0.heap.size) := by
      subst hW0
      refine ⟨by simp, by simp, by simp⟩
    rw [← hW0]
    clear hW0
    go_loopw [5] (fun i wr => ∃ k : Nat, i = .int .i64 (k : Int) ∧ k ≤ x.of.length ∧ Hid (Kept W0 wr) ∧ Hid (x.same y = Ex.sames (x.of.drop k) (y.of.drop k))) (fun i _ => x.of.length - (intOf i).toNat)
    case atStart => exact ⟨0, rfl, Nat.zero_le _, Kept.refl _, HQ.out.trans (by simp)⟩
    case round =>
      obtain ⟨k, rfl, hk, HB, HS⟩ := hrel
      have hz := HB.out.size
      have hb1 : wr.cell? ⟨w.heap.size, 3, none⟩ = some (.slice a x.of.length cap) := by rw [HB.out.cell (by have := CW.out; simp; omega)]; exact CW.out.1
      have hb2 : wr.cell? ⟨w.heap.size + 1, 3, none⟩ = some (.slice a' y.of.length cap') := by rw [HB.out.cell (by have := CW.out; simp; omega)]; exact CW.out.2.1
      by_cases hlt : k < x.of.length
      · have hki : (k : Int) < (x.of.length : Int) := by omega
        have hlt' : k < y.of.length := by have := HLM.out; omega
        have hki' : (k : Int) < (y.of.length : Int) := by omega
        have HBw : Hid (Kept w wr) := KW.out.then HB.out
        have hzw := HBw.out.size
        obtain ⟨b, o, a1, n1, q1, rfl, _, hb, _, c0, c1, c2, c3, k1⟩ := HA.out.item (HBw.out.stays (Nat.le_refl _)) k hlt
        obtain ⟨b', o', a1', n1', q1', rfl, _, hb', _, d0, d1, d2, d3, k1'⟩ := HA'.out.item (HBw.out.stays (Nat.le_refl _)) k hlt'
        have K : Hid _ := And.intro k1 k1'
        clear k1 k1'
        have HP : Hid (PRef x.of[k]) := HH.out _ (List.getElem_mem hlt)
        have HS2 : Hid _ := HS.out.trans (Ex.sames_step x.of y.of k hlt hlt')
        go_wp2_with fail
        go_region_held3 (fun w' => Hid (Kept wr w') ∧ w'.cell? ⟨w.heap.size, 3, none⟩ = some (.slice (some ⟨b, o, none⟩) x.of.length cap) ∧ w'.cell? ⟨w.heap.size + 1, 3, none⟩ = some (.slice (some ⟨b', o', none⟩) y.of.length cap') ∧
            w'.cell? ⟨b, o + k * 4, none⟩ = some (.int .i64 x.of[k].kind) ∧ w'.cell? ⟨b, o + k * 4 + 1, none⟩ = some (.int .i64 x.of[k].n) ∧ w'.cell? ⟨b, o + k * 4 + 2, none⟩ = some (.string x.of[k].name) ∧ w'.cell? ⟨b, o + k * 4 + 3, none⟩ = some (.slice a1 n1 q1) ∧
            w'.cell? ⟨b', o' + k * 4, none⟩ = some (.int .i64 y.of[k].kind) ∧ w'.cell? ⟨b', o' + k * 4 + 1, none⟩ = some (.int .i64 y.of[k].n) ∧ w'.cell? ⟨b', o' + k * 4 + 2, none⟩ = some (.string y.of[k].name) ∧ w'.cell? ⟨b', o' + k * 4 + 3, none⟩ = some (.slice a1' n1' q1'))
          ((first | (have KK : Kept wr _ := ((Kept.refl _).dr).then kw; exact ⟨KK, KK.cellS hb1, KK.cellS hb2, KK.cellS c0, KK.cellS c1, KK.cellS c2, KK.cellS c3, KK.cellS d0, KK.cellS d1, KK.cellS d2, KK.cellS d3⟩) | (have KK : Kept wr _ := (Kept.refl _).dr; exact ⟨KK, KK.cellS hb1, KK.cellS hb2, KK.cellS c0, KK.cellS c1, KK.cellS c2, KK.cellS c3, KK.cellS d0, KK.cellS d1, KK.cellS d2, KK.cellS d3⟩)))
          ((go_at_call 51; refine (HP.out y.of[k] _ _ _ (K.out.1.up hzw (Kept.refl _).dr) (K.out.2.up hzw (Kept.refl _).dr)).mono ?_; rintro e w1 ⟨rfl, kw⟩))
        rename_i hH
        clear hH
        have HB1 : Hid (Kept W0 w1) := (HB.out.then (Kept.refl _).dr).then kw
        clear kw
        cases hr : x.of[k].same y.of[k] with
        | true =>
          rw [hr] at HS2
          go_wp2_with fail
          go_roundw
          case rel => exact ⟨k + 1, by go_num, by omega, HB1, HS2⟩
          case measure => simp [intOf]; omega
        | false =>
          rw [hr] at HS2
          go_wp2_with fail
          go_ret
          exact ⟨ret_bool HS2.out.symm, KW.out.then HB1.out⟩
      · have hki : ¬ (k : Int) < (x.of.length : Int) := by omega
        have HE : Hid _ := HS.out.trans (Ex.sames_end x.of y.of k (by omega) (by omega))
        go_wp2_with fail
        go_ret
        exact ⟨ret_bool HE.out.symm, KW.out.then HB.out⟩
  · have e1 : ((x.of.length : Int) != (y.of.length : Int)) = true := by simp; omega
    have HE : Hid _ := HQ.out.trans (by rw [Ex.sames_len _ _ hlm])
    go_enter Tryz.func51, Tryz.ntmps51
    go_wp2_with fail
    go_ret
    exact ⟨ret_bool HE.out.symm, ((Kept.refl _).al _).al _⟩

theorem rsameExpr_any (x : Ex) : PRef x := Ex.ind rsameExpr_of x
#print axioms rsameExpr_any
end Go.Proofs.YteaopephdjoegaaGreatDoor
