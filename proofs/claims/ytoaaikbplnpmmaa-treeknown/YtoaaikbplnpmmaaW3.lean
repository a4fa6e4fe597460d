/- What is alike: declarations, threads, programs. -/
import Derived.Test.YtoaaikbplnpmmaaW2
namespace Go.Proofs.Ytoaaikbplnpmmaa
open Go.RowKit
attribute [local go_sem] run_store_complex

set_option maxRecDepth 100000 in
set_option maxHeartbeats 400000 in
theorem sameDecl_any (x y : Dc) (w : World) : Calls Try.prog 31 #[x.val, y.val] w fun e w' => e = .returned (.bool (x.same y)) ∧ Kept w w' := by
  have HQ : Hid (x.same y = ((x.kind == y.kind) && ((x.name.toList == y.name.toList) && (x.n == y.n)))) := rfl
  unfold Dc.val
  cases h1 : (x.kind == y.kind) with
  | false =>
    rw [h1] at HQ
    go_enter Try.func31, Try.ntmps31
    go_wp2_with fail
    go_ret
    exact ⟨ret_bool HQ.out.symm, ((Kept.refl _).al _).al _⟩
  | true =>
  rw [h1] at HQ
  cases h2 : (x.name.toList == y.name.toList) with
  | false =>
    rw [h2] at HQ
    go_enter Try.func31, Try.ntmps31
    go_wp2_with fail
    go_ret
    exact ⟨ret_bool HQ.out.symm, ((Kept.refl _).al _).al _⟩
  | true =>
  rw [h2] at HQ
  go_enter Try.func31, Try.ntmps31
  go_wp2_with fail
  go_ret
  exact ⟨ret_bool HQ.out.symm, ((Kept.refl _).al _).al _⟩

set_option maxRecDepth 100000 in
set_option maxHeartbeats 1000000 in
theorem eqfDc (l m : List Dc) (w : World) (va vb : Value) (ha : DsIn w 0 w.heap.size l va) (hb : DsIn w 0 w.heap.size m vb) :
    Calls Try.prog 30 #[va, vb, .func (.func 31) #[] #[]] w fun e w' => e = .returned (.bool (Dc.sames l m)) ∧ Kept w w' := by
  have HA : Hid _ := ha
  have HA' : Hid _ := hb
  obtain ⟨a, cap, rfl, hl, hl2, hcap⟩ := ha.open
  obtain ⟨a', cap', rfl, hl', hl2', hcap'⟩ := hb.open
  clear ha hb
  by_cases hlm : l.length = m.length
  · have e1 : ((l.length : Int) != (m.length : Int)) = false := by rw [hlm]; simp
    have HLM : Hid (l.length = m.length) := hlm
    have hlm' : m.length ≤ l.length := by omega
    clear hlm
    go_enter Try.func30, Try.ntmps30
    go_wp2_with fail
    go_loopw [17] (fun i wr => ∃ k : Nat, i = .int .i64 (k : Int) ∧ k ≤ l.length ∧ Hid (Kept w wr) ∧ Hid (Dc.sames l m = Dc.sames (l.drop k) (m.drop k))) (fun i _ => l.length - (intOf i).toNat)
    case atStart => exact ⟨0, rfl, Nat.zero_le _, Kept.refl _, rfl⟩
    case round =>
      obtain ⟨k, rfl, hk, HB, HS⟩ := hrel
      by_cases hlt : k < l.length
      · have hki : (k : Int) < (l.length : Int) := by omega
        have hlt' : k < m.length := by have := HLM.out; omega
        have hki' : (k : Int) < (m.length : Int) := by omega
        have hz := HB.out.size
        obtain ⟨b, o, rfl, _, hb, _, c0, c1, c2, c3⟩ := HA.out.item (HB.out.stays (Nat.le_refl _)) k hlt
        obtain ⟨b', o', rfl, _, hb', _, d0, d1, d2, d3⟩ := HA'.out.item (HB.out.stays (Nat.le_refl _)) k hlt'
        have hzb : b < wr.heap.size := by omega
        have hzb' : b' < wr.heap.size := by omega
        have HS2 : Hid _ := HS.out.trans (Dc.sames_step l m k hlt hlt')
        go_wp2_with fail
        refine (sameDecl_any l[k] m[k] _).mono ?_
        rintro e w1 ⟨rfl, kw⟩
        have HB1 : Hid (Kept w w1) := (HB.out.then (((Kept.refl _).al _).al _)).then kw
        clear kw
        cases hr : l[k].same m[k] with
        | true =>
          rw [hr] at HS2
          go_wp2_with fail
          go_roundw
          case rel => exact ⟨k + 1, by go_num, by omega, HB1, HS2⟩
          case measure => simp [intOf]; omega
        | false =>
          rw [hr] at HS2
          go_wp2_with fail
          go_ret
          exact ⟨ret_bool HS2.out.symm, HB1.out⟩
      · have hki : ¬ (k : Int) < (l.length : Int) := by omega
        have HE : Hid _ := HS.out.trans (Dc.sames_end l m k (by omega) (by omega))
        go_wp2_with fail
        go_ret
        exact ⟨ret_bool HE.out.symm, HB.out⟩
  · have e1 : ((l.length : Int) != (m.length : Int)) = true := by simp; omega
    have HE : Hid _ := Dc.sames_len l m hlm
    go_enter Try.func30, Try.ntmps30
    go_wp2_with fail
    go_ret
    exact ⟨ret_bool HE.out.symm, Kept.refl _⟩

set_option maxRecDepth 100000 in
set_option maxHeartbeats 1000000 in
theorem eqfTs (l m : List (List St)) (w : World) (va vb : Value) (ha : TsIn w 0 w.heap.size l va) (hb : TsIn w 0 w.heap.size m vb) :
    Calls Try.prog 32 #[va, vb, .func (.func 33) #[] #[]] w fun e w' => e = .returned (.bool (sameTs l m)) ∧ Kept w w' := by
  have HA : Hid _ := ha
  have HA' : Hid _ := hb
  obtain ⟨a, cap, rfl, hl, hl2, hcap⟩ := ha.open
  obtain ⟨a', cap', rfl, hl', hl2', hcap'⟩ := hb.open
  clear ha hb
  by_cases hlm : l.length = m.length
  · have e1 : ((l.length : Int) != (m.length : Int)) = false := by rw [hlm]; simp
    have HLM : Hid (l.length = m.length) := hlm
    have hlm' : m.length ≤ l.length := by omega
    clear hlm
    go_enter Try.func32, Try.ntmps32
    go_wp2_with fail
    go_loopw [17] (fun i wr => ∃ k : Nat, i = .int .i64 (k : Int) ∧ k ≤ l.length ∧ Hid (Kept w wr) ∧ Hid (sameTs l m = sameTs (l.drop k) (m.drop k))) (fun i _ => l.length - (intOf i).toNat)
    case atStart => exact ⟨0, rfl, Nat.zero_le _, Kept.refl _, rfl⟩
    case round =>
      obtain ⟨k, rfl, hk, HB, HS⟩ := hrel
      by_cases hlt : k < l.length
      · have hki : (k : Int) < (l.length : Int) := by omega
        have hlt' : k < m.length := by have := HLM.out; omega
        have hki' : (k : Int) < (m.length : Int) := by omega
        have hz := HB.out.size
        obtain ⟨b, o, a1, n1, q1, rfl, _, hb, _, c0, k1⟩ := HA.out.item (HB.out.stays (Nat.le_refl _)) k hlt
        obtain ⟨b', o', a1', n1', q1', rfl, _, hb', _, d0, k1'⟩ := HA'.out.item (HB.out.stays (Nat.le_refl _)) k hlt'
        have hzb : b < wr.heap.size := by omega
        have hzb' : b' < wr.heap.size := by omega
        have K : Hid _ := And.intro k1 k1'
        clear k1 k1'
        have HS2 : Hid _ := HS.out.trans (sameTs_step l m k hlt hlt')
        go_wp2_with fail
        refine (sameBlock_any l[k] m[k] _ _ _ (K.out.1.up hz (Kept.refl _)) (K.out.2.up hz (Kept.refl _))).mono ?_
        rintro e w1 ⟨rfl, kw⟩
        have HB1 : Hid (Kept w w1) := HB.out.then kw
        clear kw
        cases hr : St.sames l[k] m[k] with
        | true =>
          rw [hr] at HS2
          go_wp2_with fail
          go_roundw
          case rel => exact ⟨k + 1, by go_num, by omega, HB1, HS2⟩
          case measure => simp [intOf]; omega
        | false =>
          rw [hr] at HS2
          go_wp2_with fail
          go_ret
          exact ⟨ret_bool HS2.out.symm, HB1.out⟩
      · have hki : ¬ (k : Int) < (l.length : Int) := by omega
        have HE : Hid _ := HS.out.trans (sameTs_end l m k (by omega) (by omega))
        go_wp2_with fail
        go_ret
        exact ⟨ret_bool HE.out.symm, HB.out⟩
  · have e1 : ((l.length : Int) != (m.length : Int)) = true := by simp; omega
    have HE : Hid _ := sameTs_len l m hlm
    go_enter Try.func32, Try.ntmps32
    go_wp2_with fail
    go_ret
    exact ⟨ret_bool HE.out.symm, Kept.refl _⟩

set_option maxRecDepth 100000 in
set_option maxHeartbeats 1000000 in
theorem same_any (d d' : List Dc) (t t' : List (List St)) (w : World) (dv tv dv' tv' : Value) (hd : DsIn w 0 w.heap.size d dv) (ht : TsIn w 0 w.heap.size t tv) (hd' : DsIn w 0 w.heap.size d' dv') (ht' : TsIn w 0 w.heap.size t' tv') :
    Calls Try.prog 13 #[.agg #[dv, tv], .agg #[dv', tv']] w fun e w' => e = .returned (.bool (Dc.sames d d' && sameTs t t')) ∧ Kept w w' := by
  have H1 : Hid (∀ W, Kept w W → Calls Try.prog 30 #[dv, dv', .func (.func 31) #[] #[]] W fun e w' => e = .returned (.bool (Dc.sames d d')) ∧ Kept W w') :=
    fun W hW => eqfDc d d' W dv dv' (hd.up (Nat.le_refl _) hW) (hd'.up (Nat.le_refl _) hW)
  have H2 : Hid (∀ W, Kept w W → Calls Try.prog 32 #[tv, tv', .func (.func 33) #[] #[]] W fun e w' => e = .returned (.bool (sameTs t t')) ∧ Kept W w') :=
    fun W hW => eqfTs t t' W tv tv' (ht.up (Nat.le_refl _) hW) (ht'.up (Nat.le_refl _) hW)
  obtain ⟨a1, q1, rfl, -⟩ := hd.open
  obtain ⟨a2, q2, rfl, -⟩ := ht.open
  obtain ⟨a3, q3, rfl, -⟩ := hd'.open
  obtain ⟨a4, q4, rfl, -⟩ := ht'.open
  clear hd ht hd' ht'
  go_enter Try.func13, Try.ntmps13
  go_wp2_with fail
  refine (H1.out _ (((Kept.refl _).al _).al _)).mono ?_
  rintro e w1 ⟨rfl, kw⟩
  have HB1 : Hid (Kept w w1) := (((Kept.refl _).al _).al _ : Kept w _).then kw
  obtain ⟨hc1, hf1⟩ := bcell kw
  clear kw
  cases h1 : Dc.sames d d' with
  | false =>
    go_wp2_with fail
    go_ret
    exact ⟨ret_bool (by simp [h1]), HB1.out⟩
  | true =>
  go_wp2_with fail
  refine (H2.out _ HB1.out).mono ?_
  rintro e w2 ⟨rfl, kw2⟩
  have HB2 : Hid (Kept w w2) := HB1.out.then kw2
  clear kw2
  go_wp2_with fail
  go_ret
  exact ⟨ret_bool (by simp [h1]), HB2.out⟩
#print axioms same_any
end Go.Proofs.Ytoaaikbplnpmmaa
