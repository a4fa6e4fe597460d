/- The reference: declarations, programs that are alike. -/
import Derived.Test.YteaopephdjoegaaGreatDoorR2
import Derived.Deep.QuietTactic
import Derived.BigQuiet
namespace Go.Proofs.YteaopephdjoegaaGreatDoor
open Go.RowKit
attribute [local go_sem] run_store_complex

set_option maxRecDepth 100000 in
set_option maxHeartbeats 2000000 in
theorem rsameDecls_any (l m : List Dc) (w : World) (va vb : Value) (ha : DsIn w 0 w.heap.size l va) (hb : DsIn w 0 w.heap.size m vb) :
    Calls Tryz.prog 28 #[va, vb] w fun e w' => e = .returned (.bool (Dc.sames l m)) ∧ Kept w w' := by
  have HA : Hid _ := ha
  have HA' : Hid _ := hb
  obtain ⟨a, cap, rfl, hl, hl2, hcap⟩ := ha.open
  obtain ⟨a', cap', rfl, hl', hl2', hcap'⟩ := hb.open
  clear ha hb
  by_cases hlm : l.length = m.length
  · have e1 : ((l.length : Int) != (m.length : Int)) = false := by rw [hlm]; simp
    have HLM : Hid (l.length = m.length) := hlm
    have hlm' : m.length ≤ l.length := by omega
    clear hlm
    go_enter Tryz.func28, Tryz.ntmps28
    go_wp2_with fail
    go_loopw [5] (fun i wr => ∃ k : Nat, i = .int .i64 (k : Int) ∧ k ≤ l.length ∧ Hid (Kept w wr) ∧ Hid (Dc.sames l m = Dc.sames (l.drop k) (m.drop k))) (fun i _ => l.length - (intOf i).toNat)
    case atStart => exact ⟨0, rfl, Nat.zero_le _, Kept.refl _, rfl⟩
    case round =>
      obtain ⟨k, rfl, hk, HB, HS⟩ := hrel
      by_cases hlt : k < l.length
      · have hki : (k : Int) < (l.length : Int) := by omega
        have hlt' : k < m.length := by have := HLM.out; omega
        have hki' : (k : Int) < (m.length : Int) := by omega
        obtain ⟨b, o, rfl, _, hb, _, c0, c1, c2, c3⟩ := HA.out.item (HB.out.stays (Nat.le_refl _)) k hlt
        obtain ⟨b', o', rfl, _, hb', _, d0, d1, d2, d3⟩ := HA'.out.item (HB.out.stays (Nat.le_refl _)) k hlt'
        have HQ : Hid (Dc.sames l m = (((l[k].kind == m[k].kind) && ((l[k].name.toList == m[k].name.toList) && (l[k].n == m[k].n))) && Dc.sames (l.drop (k + 1)) (m.drop (k + 1)))) := HS.out.trans (Dc.sames_step l m k hlt hlt')
        cases h1 : (l[k].kind == m[k].kind) with
        | false =>
          rw [h1] at HQ
          have g1 : (l[k].kind != m[k].kind) = true := by rw [bne, h1]; rfl
          go_wp2_with fail
          go_quiet (fail)
          go_wp2_with fail
          go_ret
          exact ⟨ret_bool HQ.out.symm, HB.out.drN _⟩
        | true =>
        rw [h1] at HQ
        have g1 : (l[k].kind != m[k].kind) = false := by rw [bne, h1]; rfl
        cases h2 : (l[k].name.toList == m[k].name.toList) with
        | false =>
          rw [h2] at HQ
          go_wp2_with fail
          go_quiet (fail)
          go_wp2_with fail
          go_ret
          exact ⟨ret_bool HQ.out.symm, HB.out.drN _⟩
        | true =>
        rw [h2] at HQ
        cases h3 : (l[k].n == m[k].n) with
        | false =>
          rw [h3] at HQ
          have g3 : (l[k].n != m[k].n) = true := by rw [bne, h3]; rfl
          go_wp2_with fail
          go_quiet (fail)
          go_wp2_with fail
          go_ret
          exact ⟨ret_bool HQ.out.symm, HB.out.drN _⟩
        | true =>
        rw [h3] at HQ
        have g3 : (l[k].n != m[k].n) = false := by rw [bne, h3]; rfl
        go_wp2_with fail
        go_quiet (fail)
        go_wp2_with fail
        go_roundw
        case rel => exact ⟨k + 1, by go_num, by omega, HB.out.drN _, HQ⟩
        case measure => simp [intOf]; omega
      · have hki : ¬ (k : Int) < (l.length : Int) := by omega
        have HE : Hid _ := HS.out.trans (Dc.sames_end l m k (by omega) (by omega))
        go_wp2_with fail
        go_ret
        exact ⟨ret_bool HE.out.symm, HB.out⟩
  · have e1 : ((l.length : Int) != (m.length : Int)) = true := by simp; omega
    have HE : Hid _ := Dc.sames_len l m hlm
    go_enter Tryz.func28, Tryz.ntmps28
    go_wp2_with fail
    go_ret
    exact ⟨ret_bool HE.out.symm, Kept.refl _⟩

#print axioms rsameDecls_any
end Go.Proofs.YteaopephdjoegaaGreatDoor
