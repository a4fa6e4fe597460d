/- What is alike: expressions. -/
import Derived.Test.YtbjdnniklcmcbaaDoorRows
import Derived.Test.YtbjdnniklcmcbaaDoorTr
import Derived.WalkKit
import Derived.WalkSpells
import Derived.WalkLawsBesides
namespace Go.Proofs.YtbjdnniklcmcbaaDoor
open Go.RowKit


def PSame (x : Ex) : Prop := ∀ (y : Ex) (w : World) (va vb : Value), ExsIn w 0 w.heap.size x.of va → ExsIn w 0 w.heap.size y.of vb →
  Calls Tryd.prog 18 #[x.val va, y.val vb] w fun e w' => e = .returned (.bool (x.same y)) ∧ Kept w w'

set_option maxRecDepth 100000 in
set_option maxHeartbeats 400000 in
theorem eqfEx (l m : List Ex) (H : ∀ x ∈ l, PSame x) (w : World) (va vb : Value) (ha : ExsIn w 0 w.heap.size l va) (hb : ExsIn w 0 w.heap.size m vb) :
    Calls Tryd.prog 25 #[va, vb, .func (.func 18) #[] #[]] w fun e w' => e = .returned (.bool (Ex.sames l m)) ∧ Kept w w' := by
  have HA : Hid _ := ha
  have HA' : Hid _ := hb
  obtain ⟨a, cap, rfl, hl, hl2, hcap⟩ := ha.open
  obtain ⟨a', cap', rfl, hl', hl2', hcap'⟩ := hb.open
  have HH : Hid (∀ x ∈ l, PSame x) := H
  clear H ha hb
  by_cases hlm : l.length = m.length
  · have e1 : ((l.length : Int) != (m.length : Int)) = false := by rw [hlm]; simp
    have HLM : Hid (l.length = m.length) := hlm
    have hlm' : m.length ≤ l.length := by omega
    clear hlm
    go_enter Tryd.func25, Tryd.ntmps25
    go_wp2_with fail
    go_loopw [17] (fun i wr => ∃ k : Nat, i = .int .i64 (k : Int) ∧ k ≤ l.length ∧ Hid (Kept w wr) ∧ Hid (Ex.sames l m = Ex.sames (l.drop k) (m.drop k))) (fun i _ => l.length - (intOf i).toNat)
    case atStart => exact ⟨0, rfl, Nat.zero_le _, Kept.refl _, rfl⟩
    case round =>
      obtain ⟨k, rfl, hk, HB, HS⟩ := hrel
      by_cases hlt : k < l.length
      · have hki : (k : Int) < (l.length : Int) := by omega
        have hlt' : k < m.length := by have := HLM.out; omega
        have hki' : (k : Int) < (m.length : Int) := by omega
        have hz := HB.out.size
        obtain ⟨b, o, a1, n1, q1, rfl, _, h2, _, c0, c1, c2, c3, k1⟩ := HA.out.item (HB.out.stays (Nat.le_refl _)) k hlt
        obtain ⟨b', o', a2, n2, q2, rfl, _, h2', _, d0, d1, d2, d3, k2⟩ := HA'.out.item (HB.out.stays (Nat.le_refl _)) k hlt'
        have K1 : Hid _ := k1
        have K2 : Hid _ := k2
        clear k1 k2
        have hzb : b < wr.heap.size := by omega
        have hzb' : b' < wr.heap.size := by omega
        have HP : Hid (PSame l[k]) := HH.out _ (List.getElem_mem hlt)
        have HS2 : Hid _ := HS.out.trans (Ex.sames_step l m k hlt hlt')
        go_wp2_with fail
        refine (HP.out m[k] _ _ _ (K1.out.up hz (((Kept.refl _).al _).al _)) (K2.out.up hz (((Kept.refl _).al _).al _))).mono ?_
        rintro e w1 ⟨rfl, kw⟩
        have HB1 : Hid (Kept w w1) := (HB.out.then (((Kept.refl _).al _).al _)).then kw
        clear kw
        cases hr : l[k].same m[k] with
        | true =>
          rw [hr] at HS2
          go_wp2_with fail
          go_roundw
          case rel => exact ⟨k + 1, by go_num, by omega, HB1, HS2⟩
          case measure => simp [intOf]; omega
        | false =>
          rw [hr] at HS2
          go_wp2_with fail
          go_ret
          exact ⟨ret_bool HS2.out.symm, HB1.out⟩
      · have hki : ¬ (k : Int) < (l.length : Int) := by omega
        have HE : Hid _ := HS.out.trans (Ex.sames_end l m k (by omega) (by omega))
        go_wp2_with fail
        go_ret
        exact ⟨ret_bool HE.out.symm, HB.out⟩
  · have e1 : ((l.length : Int) != (m.length : Int)) = true := by simp; omega
    have HE : Hid _ := Ex.sames_len l m hlm
    go_enter Tryd.func25, Tryd.ntmps25
    go_wp2_with fail
    go_ret
    exact ⟨ret_bool HE.out.symm, Kept.refl _⟩

set_option maxRecDepth 100000 in
set_option maxHeartbeats 400000 in
theorem sameExpr_of (x : Ex) (H : ∀ y ∈ x.of, PSame y) : PSame x := by
  intro y w va vb ha hb
  have HE : Hid (∀ W, Kept w W → Calls Tryd.prog 25 #[va, vb, .func (.func 18) #[] #[]] W fun e w' => e = .returned (.bool (Ex.sames x.of y.of)) ∧ Kept W w') :=
    fun W hW => eqfEx x.of y.of H W va vb (ha.up (Nat.le_refl _) hW) (hb.up (Nat.le_refl _) hW)
  have HQ : Hid _ := Ex.same_eq x y
  obtain ⟨a1, n1, q1, rfl⟩ := ha.form
  obtain ⟨a2, n2, q2, rfl⟩ := hb.form
  clear H ha hb
  unfold Ex.val
  cases h1 : (x.kind == y.kind) with
  | false =>
    rw [h1] at HQ
    go_enter Tryd.func18, Tryd.ntmps18
    go_wp2_with fail
    go_ret
    exact ⟨ret_bool HQ.out.symm, ((Kept.refl _).al _).al _⟩
  | true =>
    rw [h1] at HQ
    cases h2 : (x.n == y.n) with
    | false =>
      rw [h2] at HQ
      go_enter Tryd.func18, Tryd.ntmps18
      go_wp2_with fail
      go_ret
      exact ⟨ret_bool HQ.out.symm, ((Kept.refl _).al _).al _⟩
    | true =>
      rw [h2] at HQ
      cases h3 : (x.name.toList == y.name.toList) with
      | false =>
        rw [h3] at HQ
        go_enter Tryd.func18, Tryd.ntmps18
        go_wp2_with fail
        go_ret
        exact ⟨ret_bool HQ.out.symm, ((Kept.refl _).al _).al _⟩
      | true =>
        rw [h3] at HQ
        go_enter Tryd.func18, Tryd.ntmps18
        go_wp2_with fail
        refine (HE.out _ (((Kept.refl _).al _).al _)).mono ?_
        rintro e w1 ⟨rfl, kw⟩
        have HB1 : Hid (Kept w w1) := (((Kept.refl _).al _).al _ : Kept w _).then kw
        clear kw
        go_wp2_with fail
        go_ret
        exact ⟨ret_bool HQ.out.symm, HB1.out⟩

theorem sameExpr_any (x : Ex) : PSame x := Ex.ind sameExpr_of x
#print axioms sameExpr_any
end Go.Proofs.YtbjdnniklcmcbaaDoor
