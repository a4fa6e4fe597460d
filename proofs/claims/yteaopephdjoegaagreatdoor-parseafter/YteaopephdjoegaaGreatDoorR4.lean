/- The reference: programs that are alike. -/
import Derived.Test.YteaopephdjoegaaGreatDoorR3
namespace Go.Proofs.YteaopephdjoegaaGreatDoor
open Go.RowKit
attribute [local go_sem] run_store_complex

set_option maxRecDepth 100000 in
set_option maxHeartbeats 2000000 in
theorem rsame_any (d d' : List Dc) (t t' : List (List St)) (w : World) (dv tv dv' tv' : Value) (hd : DsIn w 0 w.heap.size d dv) (ht : TsIn w 0 w.heap.size t tv) (hd' : DsIn w 0 w.heap.size d' dv') (ht' : TsIn w 0 w.heap.size t' tv') :
    Calls Tryz.prog 10 #[.agg #[dv, tv], .agg #[dv', tv']] w fun e w' => e = .returned (.bool (Dc.sames d d' && sameTs t t')) ∧ Kept w w' := by
  have H1 : Hid (∀ W, Kept w W → Calls Tryz.prog 28 #[dv, dv'] W fun e w' => e = .returned (.bool (Dc.sames d d')) ∧ Kept W w') :=
    fun W hW => rsameDecls_any d d' W dv dv' (hd.up (Nat.le_refl _) hW) (hd'.up (Nat.le_refl _) hW)
  have HA : Hid _ := ht
  have HA' : Hid _ := ht'
  obtain ⟨a1, q1, rfl, -⟩ := hd.open
  obtain ⟨a, cap, rfl, hl, hl2, hcap⟩ := ht.open
  obtain ⟨a3, q3, rfl, -⟩ := hd'.open
  obtain ⟨a', cap', rfl, hl', hl2', hcap'⟩ := ht'.open
  clear hd ht hd' ht'
  go_enter Tryz.func10, Tryz.ntmps10
  go_wp2_with fail
  refine (H1.out _ (((Kept.refl _).al _).al _)).mono ?_
  rintro e w1 ⟨rfl, kw⟩
  have HB1 : Hid (Kept w w1) := (((Kept.refl _).al _).al _ : Kept w _).then kw
  obtain ⟨hc1, hf1⟩ := bcell kw
  cases h1 : Dc.sames d d' with
  | false =>
    go_wp2_with fail
    go_ret
    exact ⟨ret_bool (by simp [h1]), HB1.out⟩
  | true =>
  by_cases hlm : t.length = t'.length
  · have e1 : ((t.length : Int) != (t'.length : Int)) = false := by rw [hlm]; simp
    have HLM : Hid (t.length = t'.length) := hlm
    have hlm' : t'.length ≤ t.length := by omega
    clear hlm
    have CW : Hid (w1.cell? ⟨w.heap.size, 1, none⟩ = some (.slice a t.length cap) ∧ w1.cell? ⟨w.heap.size + 1, 1, none⟩ = some (.slice a' t'.length cap')) := by
      refine ⟨?_, ?_⟩
      · rw [hc1 _ _ (by simp; omega)]; simp
      · rw [hc1 _ _ (by simp)]; simp
    have hz1 : w.heap.size + 1 < w1.heap.size := by have := kw.size; simp at this; omega
    clear kw
    go_wp2_with fail
    clear hc1 hf1
    go_loopw [5] (fun i wr => ∃ k : Nat, i = .int .i64 (k : Int) ∧ k ≤ t.length ∧ Hid (Kept w1 wr) ∧ Hid (sameTs t t' = sameTs (t.drop k) (t'.drop k))) (fun i _ => t.length - (intOf i).toNat)
    case atStart => exact ⟨0, rfl, Nat.zero_le _, Kept.refl _, rfl⟩
    case round =>
      obtain ⟨k, rfl, hk, HB, HS⟩ := hrel
      have hz := HB.out.size
      have hb1 : wr.cell? ⟨w.heap.size, 1, none⟩ = some (.slice a t.length cap) := HB.out.cellS CW.out.1
      have hb2 : wr.cell? ⟨w.heap.size + 1, 1, none⟩ = some (.slice a' t'.length cap') := HB.out.cellS CW.out.2
      by_cases hlt : k < t.length
      · have hki : (k : Int) < (t.length : Int) := by omega
        have hlt' : k < t'.length := by have := HLM.out; omega
        have hki' : (k : Int) < (t'.length : Int) := by omega
        have HBw : Hid (Kept w wr) := HB1.out.then HB.out
        have hzw := HBw.out.size
        obtain ⟨b, o, a1, n1, q1, rfl, _, hb, _, c0, k1⟩ := HA.out.item (HBw.out.stays (Nat.le_refl _)) k hlt
        obtain ⟨b', o', a1', n1', q1', rfl, _, hb', _, d0, k1'⟩ := HA'.out.item (HBw.out.stays (Nat.le_refl _)) k hlt'
        have K : Hid _ := And.intro k1 k1'
        clear k1 k1'
        have HS2 : Hid _ := HS.out.trans (sameTs_step t t' k hlt hlt')
        go_wp2_with fail
        go_region_held3 (fun w' => Hid (Kept wr w') ∧ w'.cell? ⟨w.heap.size, 1, none⟩ = some (.slice (some ⟨b, o, none⟩) t.length cap) ∧ w'.cell? ⟨w.heap.size + 1, 1, none⟩ = some (.slice (some ⟨b', o', none⟩) t'.length cap') ∧
            w'.cell? ⟨b, o + k, none⟩ = some (.slice a1 n1 q1) ∧ w'.cell? ⟨b', o' + k, none⟩ = some (.slice a1' n1' q1'))
          ((first | (have KK : Kept wr _ := ((Kept.refl _).dr).then kw; exact ⟨KK, KK.cellS hb1, KK.cellS hb2, KK.cellS c0, KK.cellS d0⟩) | (have KK : Kept wr _ := (Kept.refl _).dr; exact ⟨KK, KK.cellS hb1, KK.cellS hb2, KK.cellS c0, KK.cellS d0⟩)))
          ((go_at_call 29; refine (rsameBlock_any t[k] t'[k] _ _ _ (K.out.1.up hzw (Kept.refl _).dr) (K.out.2.up hzw (Kept.refl _).dr)).mono ?_; rintro e w2 ⟨rfl, kw⟩))
        rename_i hH
        clear hH
        have HB2 : Hid (Kept w1 w2) := (HB.out.then (Kept.refl _).dr).then kw
        clear kw
        cases hr : St.sames t[k] t'[k] with
        | true =>
          rw [hr] at HS2
          go_wp2_with fail
          go_roundw
          case rel => exact ⟨k + 1, by go_num, by omega, HB2, HS2⟩
          case measure => simp [intOf]; omega
        | false =>
          rw [hr] at HS2
          go_wp2_with fail
          go_ret
          exact ⟨ret_bool (by first | exact HS2.out.symm | (rw [h1]; exact HS2.out.symm)), HB1.out.then HB2.out⟩
      · have hki : ¬ (k : Int) < (t.length : Int) := by omega
        have HE : Hid _ := HS.out.trans (sameTs_end t t' k (by omega) (by omega))
        go_wp2_with fail
        go_ret
        exact ⟨ret_bool (by first | exact HE.out.symm | (rw [h1]; exact HE.out.symm)), HB1.out.then HB.out⟩
  · have e1 : ((t.length : Int) != (t'.length : Int)) = true := by simp; omega
    have HE : Hid _ := sameTs_len t t' hlm
    go_wp2_with fail
    go_ret
    exact ⟨ret_bool (by first | exact HE.out.symm | (rw [h1]; exact HE.out.symm)), HB1.out⟩
#print axioms rsame_any
end Go.Proofs.YteaopephdjoegaaGreatDoor
