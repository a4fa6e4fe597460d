/- The reference: blocks that are alike. -/
import Derived.Test.YteaopephdjoegaaGreatDoorR1
namespace Go.Proofs.YteaopephdjoegaaGreatDoor
open Go.RowKit
attribute [local go_sem] run_store_complex

/-- What SameBlock answers at l. -/
def PRb (l : List St) : Prop := ∀ (m : List St) (w : World) (va vb : Value), StsIn w 0 w.heap.size l va → StsIn w 0 w.heap.size m vb →
  Calls Tryz.prog 29 #[va, vb] w fun e w' => e = .returned (.bool (St.sames l m)) ∧ Kept w w'

set_option maxRecDepth 100000 in
set_option maxHeartbeats 2000000 in
theorem rsameBlock_of (l : List St) (H : ∀ x ∈ l, PRb x.body ∧ PRb x.els) : PRb l := by
  intro m w va vb ha hb
  have HA : Hid _ := ha
  have HA' : Hid _ := hb
  obtain ⟨a, cap, rfl, hl, hl2, hcap⟩ := ha.open
  obtain ⟨a', cap', rfl, hl', hl2', hcap'⟩ := hb.open
  have HH : Hid (∀ x ∈ l, PRb x.body ∧ PRb x.els) := H
  clear H ha hb
  by_cases hlm : l.length = m.length
  · have e1 : ((l.length : Int) != (m.length : Int)) = false := by rw [hlm]; simp
    have HLM : Hid (l.length = m.length) := hlm
    have hlm' : m.length ≤ l.length := by omega
    clear hlm
    go_enter Tryz.func29, Tryz.ntmps29
    go_wp2_with fail
    go_loopw [5] (fun i wr => ∃ k : Nat, i = .int .i64 (k : Int) ∧ k ≤ l.length ∧ Hid (Kept w wr) ∧ Hid (St.sames l m = St.sames (l.drop k) (m.drop k))) (fun i _ => l.length - (intOf i).toNat)
    case atStart => exact ⟨0, rfl, Nat.zero_le _, Kept.refl _, rfl⟩
    case round =>
      obtain ⟨k, rfl, hk, HB, HS⟩ := hrel
      by_cases hlt : k < l.length
      · have hki : (k : Int) < (l.length : Int) := by omega
        have hlt' : k < m.length := by have := HLM.out; omega
        have hki' : (k : Int) < (m.length : Int) := by omega
        have hz := HB.out.size
        obtain ⟨b, o, a1, n1, q1, a2, n2, q2, a3, n3, q3, rfl, _, hb, _, c0, c1, c2, c3, c4, c5, c6, c7, c8, c9, c10, k1, k2, k3⟩ := HA.out.item (HB.out.stays (Nat.le_refl _)) k hlt
        obtain ⟨b', o', a1', n1', q1', a2', n2', q2', a3', n3', q3', rfl, _, hb', _, d0, d1, d2, d3, d4, d5, d6, d7, d8, d9, d10, k1', k2', k3'⟩ := HA'.out.item (HB.out.stays (Nat.le_refl _)) k hlt'
        have hzb : b < wr.heap.size := by omega
        have hzb' : b' < wr.heap.size := by omega
        have HP := HH.out _ (List.getElem_mem hlt)
        have HQ0 := HS.out.trans (St.sames_step l m k hlt hlt')
        rw [St.same_eq] at HQ0
        have HQ : Hid _ := HQ0
        clear HQ0
        have H1 : Hid (∀ W, Kept wr W → Calls Tryz.prog 51 #[l[k].e.val (.slice a1 n1 q1), m[k].e.val (.slice a1' n1' q1')] W fun e w' => e = .returned (.bool (l[k].e.same m[k].e)) ∧ Kept W w') :=
          fun W hW => rsameExpr_any l[k].e m[k].e W _ _ (k1.up hz hW) (k1'.up hz hW)
        have H2 : Hid (∀ W, Kept wr W → Calls Tryz.prog 29 #[.slice a2 n2 q2, .slice a2' n2' q2'] W fun e w' => e = .returned (.bool (St.sames l[k].body m[k].body)) ∧ Kept W w') :=
          fun W hW => HP.1 m[k].body W _ _ (k2.up hz hW) (k2'.up hz hW)
        have H3 : Hid (∀ W, Kept wr W → Calls Tryz.prog 29 #[.slice a3 n3 q3, .slice a3' n3' q3'] W fun e w' => e = .returned (.bool (St.sames l[k].els m[k].els)) ∧ Kept W w') :=
          fun W hW => HP.2 m[k].els W _ _ (k3.up hz hW) (k3'.up hz hW)
        clear k1 k2 k3 k1' k2' k3' HP
        unfold Ex.val at H1
        cases h1 : (l[k].kind == m[k].kind) with
        | false =>
          rw [h1] at HQ
          have g1 : (l[k].kind != m[k].kind) = true := by rw [bne, h1]; rfl
          go_wp2_with fail
          go_ret
          exact ⟨ret_bool HQ.out.symm, HB.out.then (((Kept.refl _).al _).al _)⟩
        | true =>
        rw [h1] at HQ
        have g1 : (l[k].kind != m[k].kind) = false := by rw [bne, h1]; rfl
        cases h2 : (l[k].name.toList == m[k].name.toList) with
        | false =>
          rw [h2] at HQ
          go_wp2_with fail
          go_ret
          exact ⟨ret_bool HQ.out.symm, HB.out.then (((Kept.refl _).al _).al _)⟩
        | true =>
        rw [h2] at HQ
        cases h3 : (l[k].other.toList == m[k].other.toList) with
        | false =>
          rw [h3] at HQ
          go_wp2_with fail
          go_ret
          exact ⟨ret_bool HQ.out.symm, HB.out.then (((Kept.refl _).al _).al _)⟩
        | true =>
        rw [h3] at HQ
        cases h4 : (l[k].n == m[k].n) with
        | false =>
          rw [h4] at HQ
          have g4 : (l[k].n != m[k].n) = true := by rw [bne, h4]; rfl
          go_wp2_with fail
          go_ret
          exact ⟨ret_bool HQ.out.symm, HB.out.then (((Kept.refl _).al _).al _)⟩
        | true =>
        rw [h4] at HQ
        have g4 : (l[k].n != m[k].n) = false := by rw [bne, h4]; rfl
        go_wp2_with fail
        refine (H1.out _ (((Kept.refl _).al _).al _)).mono ?_
        rintro e w1 ⟨rfl, kw⟩
        have HB1 : Hid (Kept wr w1) := (((Kept.refl _).al _).al _ : Kept wr _).then kw
        obtain ⟨hc1, hf1⟩ := bcell kw
        have hz1 : wr.heap.size + 1 < w1.heap.size := by have := kw.size; simp at this; omega
        have hz0 : wr.heap.size < w1.heap.size := by omega
        clear kw
        cases h5 : l[k].e.same m[k].e with
        | false =>
          rw [h5] at HQ
          go_wp2_with fail
          go_ret
          exact ⟨ret_bool HQ.out.symm, HB.out.then HB1.out⟩
        | true =>
        rw [h5] at HQ
        go_wp2_with fail
        refine (H2.out _ HB1.out).mono ?_
        rintro e w2 ⟨rfl, kw2⟩
        have HB2 : Hid (Kept wr w2) := HB1.out.then kw2
        obtain ⟨hc2, hf2⟩ := bcell kw2
        clear kw2
        cases h6 : St.sames l[k].body m[k].body with
        | false =>
          rw [h6] at HQ
          go_wp2_with fail
          go_ret
          exact ⟨ret_bool HQ.out.symm, HB.out.then HB2.out⟩
        | true =>
        rw [h6] at HQ
        go_wp2_with fail
        refine (H3.out _ HB2.out).mono ?_
        rintro e w3 ⟨rfl, kw3⟩
        have HB3 : Hid (Kept w w3) := HB.out.then (HB2.out.then kw3)
        clear kw3
        cases h7 : St.sames l[k].els m[k].els with
        | false =>
          rw [h7] at HQ
          go_wp2_with fail
          go_ret
          exact ⟨ret_bool HQ.out.symm, HB3.out⟩
        | true =>
        rw [h7] at HQ
        go_wp2_with fail
        go_roundw
        case rel => exact ⟨k + 1, by go_num, by omega, HB3, HQ⟩
        case measure => simp [intOf]; omega
      · have hki : ¬ (k : Int) < (l.length : Int) := by omega
        have HE : Hid _ := HS.out.trans (St.sames_end l m k (by omega) (by omega))
        go_wp2_with fail
        go_ret
        exact ⟨ret_bool HE.out.symm, HB.out⟩
  · have e1 : ((l.length : Int) != (m.length : Int)) = true := by simp; omega
    have HE : Hid _ := St.sames_len l m hlm
    go_enter Tryz.func29, Tryz.ntmps29
    go_wp2_with fail
    go_ret
    exact ⟨ret_bool HE.out.symm, Kept.refl _⟩

theorem rsameBlock_any (l : List St) : PRb l :=
  rsameBlock_of l fun x _ => St.ind (P := fun x => PRb x.body ∧ PRb x.els) (fun s hb hl => ⟨rsameBlock_of s.body hb, rsameBlock_of s.els hl⟩) x
#print axioms rsameBlock_any
end Go.Proofs.YteaopephdjoegaaGreatDoor
