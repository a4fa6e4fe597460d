/- What is alike: expressions. What is alike: statements, blocks. What is alike: declarations, threads, programs. -/
import Derived.Test.YtkobdephobaopaaGreatDoorRows
import Derived.Test.YtkobdephobaopaaGreatDoorKpA
import Derived.WalkKit
import Derived.WalkSpells
import Derived.WalkLawsBesides

namespace Go.Proofs.YtkobdephobaopaaGreatDoor
open Go.RowKit


def PSame (x : Ex) : Prop := ∀ (y : Ex) (w : World) (va vb : Value), ExsIn w 0 w.heap.size x.of va → ExsIn w 0 w.heap.size y.of vb →
  Calls Tryz.prog 116 #[x.val va, y.val vb] w fun e w' => e = .returned (.bool (x.same y)) ∧ Kept w w'

set_option maxRecDepth 100000 in
set_option maxHeartbeats 400000 in
theorem eqfEx (l m : List Ex) (H : ∀ x ∈ l, PSame x) (w : World) (va vb : Value) (ha : ExsIn w 0 w.heap.size l va) (hb : ExsIn w 0 w.heap.size m vb) :
    Calls Tryz.prog 126 #[va, vb, .func (.func 116) #[] #[]] w fun e w' => e = .returned (.bool (Ex.sames l m)) ∧ Kept w w' := by
  have HA : Hid _ := ha
  have HA' : Hid _ := hb
  obtain ⟨a, cap, rfl, hl, hl2, hcap⟩ := ha.open
  obtain ⟨a', cap', rfl, hl', hl2', hcap'⟩ := hb.open
  have HH : Hid (∀ x ∈ l, PSame x) := H
  clear H ha hb
  by_cases hlm : l.length = m.length
  · have e1 : ((l.length : Int) != (m.length : Int)) = false := by rw [hlm]; simp
    have HLM : Hid (l.length = m.length) := hlm
    have hlm' : m.length ≤ l.length := by omega
    clear hlm
    go_enter Tryz.func126, Tryz.ntmps126
    go_wp2_with fail
    go_loopw [17] (fun i wr => ∃ k : Nat, i = .int .i64 (k : Int) ∧ k ≤ l.length ∧ Hid (Kept w wr) ∧ Hid (Ex.sames l m = Ex.sames (l.drop k) (m.drop k))) (fun i _ => l.length - (intOf i).toNat)
    case atStart => exact ⟨0, rfl, Nat.zero_le _, Kept.refl _, rfl⟩
    case round =>
      obtain ⟨k, rfl, hk, HB, HS⟩ := hrel
      by_cases hlt : k < l.length
      · have hki : (k : Int) < (l.length : Int) := by omega
        have hlt' : k < m.length := by have := HLM.out; omega
        have hki' : (k : Int) < (m.length : Int) := by omega
        have hz := HB.out.size
        obtain ⟨b, o, a1, n1, q1, rfl, _, h2, _, c0, c1, c2, c3, k1⟩ := HA.out.item (HB.out.stays (Nat.le_refl _)) k hlt
        obtain ⟨b', o', a2, n2, q2, rfl, _, h2', _, d0, d1, d2, d3, k2⟩ := HA'.out.item (HB.out.stays (Nat.le_refl _)) k hlt'
        have K1 : Hid _ := k1
        have K2 : Hid _ := k2
        clear k1 k2
        have hzb : b < wr.heap.size := by omega
        have hzb' : b' < wr.heap.size := by omega
        have HP : Hid (PSame l[k]) := HH.out _ (List.getElem_mem hlt)
        have HS2 : Hid _ := HS.out.trans (Ex.sames_step l m k hlt hlt')
        go_wp2_with fail
        refine (HP.out m[k] _ _ _ (K1.out.up hz (((Kept.refl _).al _).al _)) (K2.out.up hz (((Kept.refl _).al _).al _))).mono ?_
        rintro e w1 ⟨rfl, kw⟩
        have HB1 : Hid (Kept w w1) := (HB.out.then (((Kept.refl _).al _).al _)).then kw
        clear kw
        cases hr : l[k].same m[k] with
        | true =>
          rw [hr] at HS2
          go_wp2_with fail
          go_roundw
          case rel => exact ⟨k + 1, by go_num, by omega, HB1, HS2⟩
          case measure => simp [intOf]; omega
        | false =>
          rw [hr] at HS2
          go_wp2_with fail
          go_ret
          exact ⟨ret_bool HS2.out.symm, HB1.out⟩
      · have hki : ¬ (k : Int) < (l.length : Int) := by omega
        have HE : Hid _ := HS.out.trans (Ex.sames_end l m k (by omega) (by omega))
        go_wp2_with fail
        go_ret
        exact ⟨ret_bool HE.out.symm, HB.out⟩
  · have e1 : ((l.length : Int) != (m.length : Int)) = true := by simp; omega
    have HE : Hid _ := Ex.sames_len l m hlm
    go_enter Tryz.func126, Tryz.ntmps126
    go_wp2_with fail
    go_ret
    exact ⟨ret_bool HE.out.symm, Kept.refl _⟩

set_option maxRecDepth 100000 in
set_option maxHeartbeats 400000 in
theorem sameExpr_of (x : Ex) (H : ∀ y ∈ x.of, PSame y) : PSame x := by
  intro y w va vb ha hb
  have HE : Hid (∀ W, Kept w W → Calls Tryz.prog 126 #[va, vb, .func (.func 116) #[] #[]] W fun e w' => e = .returned (.bool (Ex.sames x.of y.of)) ∧ Kept W w') :=
    fun W hW => eqfEx x.of y.of H W va vb (ha.up (Nat.le_refl _) hW) (hb.up (Nat.le_refl _) hW)
  have HQ : Hid _ := Ex.same_eq x y
  obtain ⟨a1, n1, q1, rfl⟩ := ha.form
  obtain ⟨a2, n2, q2, rfl⟩ := hb.form
  clear H ha hb
  unfold Ex.val
  cases h1 : (x.kind == y.kind) with
  | false =>
    rw [h1] at HQ
    go_enter Tryz.func116, Tryz.ntmps116
    go_wp2_with fail
    go_ret
    exact ⟨ret_bool HQ.out.symm, ((Kept.refl _).al _).al _⟩
  | true =>
    rw [h1] at HQ
    cases h2 : (x.n == y.n) with
    | false =>
      rw [h2] at HQ
      go_enter Tryz.func116, Tryz.ntmps116
      go_wp2_with fail
      go_ret
      exact ⟨ret_bool HQ.out.symm, ((Kept.refl _).al _).al _⟩
    | true =>
      rw [h2] at HQ
      cases h3 : (x.name.toList == y.name.toList) with
      | false =>
        rw [h3] at HQ
        go_enter Tryz.func116, Tryz.ntmps116
        go_wp2_with fail
        go_ret
        exact ⟨ret_bool HQ.out.symm, ((Kept.refl _).al _).al _⟩
      | true =>
        rw [h3] at HQ
        go_enter Tryz.func116, Tryz.ntmps116
        go_wp2_with fail
        refine (HE.out _ (((Kept.refl _).al _).al _)).mono ?_
        rintro e w1 ⟨rfl, kw⟩
        have HB1 : Hid (Kept w w1) := (((Kept.refl _).al _).al _ : Kept w _).then kw
        clear kw
        go_wp2_with fail
        go_ret
        exact ⟨ret_bool HQ.out.symm, HB1.out⟩

theorem sameExpr_any (x : Ex) : PSame x := Ex.ind sameExpr_of x
end Go.Proofs.YtkobdephobaopaaGreatDoor

namespace Go.Proofs.YtkobdephobaopaaGreatDoor
open Go.RowKit
attribute [local go_sem] run_store_complex

def PSameS (x : St) : Prop := ∀ (y : St) (w : World) (ev bv lv ev' bv' lv' : Value), ExsIn w 0 w.heap.size x.e.of ev → StsIn w 0 w.heap.size x.body bv → StsIn w 0 w.heap.size x.els lv →
  ExsIn w 0 w.heap.size y.e.of ev' → StsIn w 0 w.heap.size y.body bv' → StsIn w 0 w.heap.size y.els lv' →
  Calls Tryz.prog 97 #[x.val ev bv lv, y.val ev' bv' lv'] w fun e w' => e = .returned (.bool (x.same y)) ∧ Kept w w'

set_option maxRecDepth 100000 in
set_option maxHeartbeats 1000000 in
theorem eqfSt (l m : List St) (H : ∀ x ∈ l, PSameS x) (w : World) (va vb : Value) (ha : StsIn w 0 w.heap.size l va) (hb : StsIn w 0 w.heap.size m vb) :
    Calls Tryz.prog 96 #[va, vb, .func (.func 97) #[] #[]] w fun e w' => e = .returned (.bool (St.sames l m)) ∧ Kept w w' := by
  have HA : Hid _ := ha
  have HA' : Hid _ := hb
  obtain ⟨a, cap, rfl, hl, hl2, hcap⟩ := ha.open
  obtain ⟨a', cap', rfl, hl', hl2', hcap'⟩ := hb.open
  have HH : Hid (∀ x ∈ l, PSameS x) := H
  clear H ha hb
  by_cases hlm : l.length = m.length
  · have e1 : ((l.length : Int) != (m.length : Int)) = false := by rw [hlm]; simp
    have HLM : Hid (l.length = m.length) := hlm
    have hlm' : m.length ≤ l.length := by omega
    clear hlm
    go_enter Tryz.func96, Tryz.ntmps96
    go_wp2_with fail
    go_loopw [17] (fun i wr => ∃ k : Nat, i = .int .i64 (k : Int) ∧ k ≤ l.length ∧ Hid (Kept w wr) ∧ Hid (St.sames l m = St.sames (l.drop k) (m.drop k))) (fun i _ => l.length - (intOf i).toNat)
    case atStart => exact ⟨0, rfl, Nat.zero_le _, Kept.refl _, rfl⟩
    case round =>
      obtain ⟨k, rfl, hk, HB, HS⟩ := hrel
      by_cases hlt : k < l.length
      · have hki : (k : Int) < (l.length : Int) := by omega
        have hlt' : k < m.length := by have := HLM.out; omega
        have hki' : (k : Int) < (m.length : Int) := by omega
        have hz := HB.out.size
        obtain ⟨b, o, a1, n1, q1, a2, n2, q2, a3, n3, q3, rfl, _, hb, _, c0, c1, c2, c3, c4, c5, c6, c7, c8, c9, c10, k1, k2, k3⟩ := HA.out.item (HB.out.stays (Nat.le_refl _)) k hlt
        obtain ⟨b', o', a1', n1', q1', a2', n2', q2', a3', n3', q3', rfl, _, hb', _, d0, d1, d2, d3, d4, d5, d6, d7, d8, d9, d10, k1', k2', k3'⟩ := HA'.out.item (HB.out.stays (Nat.le_refl _)) k hlt'
        have K : Hid _ := And.intro k1 (And.intro k2 (And.intro k3 (And.intro k1' (And.intro k2' k3'))))
        clear k1 k2 k3 k1' k2' k3'
        have hzb : b < wr.heap.size := by omega
        have hzb' : b' < wr.heap.size := by omega
        have HP : Hid (PSameS l[k]) := HH.out _ (List.getElem_mem hlt)
        have HS2 : Hid _ := HS.out.trans (St.sames_step l m k hlt hlt')
        go_wp2_with fail
        obtain ⟨k1, k2, k3, k1', k2', k3'⟩ := K.out
        refine (HP.out m[k] _ _ _ _ _ _ _ (k1.up hz (((Kept.refl _).al _).al _)) (k2.up hz (((Kept.refl _).al _).al _)) (k3.up hz (((Kept.refl _).al _).al _)) (k1'.up hz (((Kept.refl _).al _).al _)) (k2'.up hz (((Kept.refl _).al _).al _)) (k3'.up hz (((Kept.refl _).al _).al _))).mono ?_
        rintro e w1 ⟨rfl, kw⟩
        have HB1 : Hid (Kept w w1) := (HB.out.then (((Kept.refl _).al _).al _)).then kw
        clear kw k1 k2 k3 k1' k2' k3'
        cases hr : l[k].same m[k] with
        | true =>
          rw [hr] at HS2
          go_wp2_with fail
          go_roundw
          case rel => exact ⟨k + 1, by go_num, by omega, HB1, HS2⟩
          case measure => simp [intOf]; omega
        | false =>
          rw [hr] at HS2
          go_wp2_with fail
          go_ret
          exact ⟨ret_bool HS2.out.symm, HB1.out⟩
      · have hki : ¬ (k : Int) < (l.length : Int) := by omega
        have HE : Hid _ := HS.out.trans (St.sames_end l m k (by omega) (by omega))
        go_wp2_with fail
        go_ret
        exact ⟨ret_bool HE.out.symm, HB.out⟩
  · have e1 : ((l.length : Int) != (m.length : Int)) = true := by simp; omega
    have HE : Hid _ := St.sames_len l m hlm
    go_enter Tryz.func96, Tryz.ntmps96
    go_wp2_with fail
    go_ret
    exact ⟨ret_bool HE.out.symm, Kept.refl _⟩

set_option maxRecDepth 100000 in
set_option maxHeartbeats 1000000 in
theorem sameBlock_of (l m : List St) (H : ∀ x ∈ l, PSameS x) (w : World) (va vb : Value) (ha : StsIn w 0 w.heap.size l va) (hb : StsIn w 0 w.heap.size m vb) :
    Calls Tryz.prog 71 #[va, vb] w fun e w' => e = .returned (.bool (St.sames l m)) ∧ Kept w w' := by
  have HE : Hid _ := eqfSt l m H w va vb ha hb
  obtain ⟨a, cap, rfl, -⟩ := ha.open
  obtain ⟨a', cap', rfl, -⟩ := hb.open
  clear H ha hb
  go_enter Tryz.func71, Tryz.ntmps71
  go_wp2_with fail
  refine Calls.mono HE.out ?_
  rintro e w1 ⟨rfl, kw⟩
  go_wp2_with fail
  go_ret
  exact ⟨rfl, kw⟩

theorem and_false1 {a b : Bool} (h : a = false) : (a && b) = false := by rw [h]; rfl
set_option maxRecDepth 100000 in
set_option maxHeartbeats 1000000 in
theorem sameStmt_of (x : St) (HB : ∀ y ∈ x.body, PSameS y) (HL : ∀ y ∈ x.els, PSameS y) : PSameS x := by
  intro y w ev bv lv ev' bv' lv' he hb hl he' hb' hl'
  have H1 : Hid (∀ W, Kept w W → Calls Tryz.prog 116 #[x.e.val ev, y.e.val ev'] W fun e w' => e = .returned (.bool (x.e.same y.e)) ∧ Kept W w') :=
    fun W hW => sameExpr_any x.e y.e W ev ev' (he.up (Nat.le_refl _) hW) (he'.up (Nat.le_refl _) hW)
  have H2 : Hid (∀ W, Kept w W → Calls Tryz.prog 71 #[bv, bv'] W fun e w' => e = .returned (.bool (St.sames x.body y.body)) ∧ Kept W w') :=
    fun W hW => sameBlock_of x.body y.body HB W bv bv' (hb.up (Nat.le_refl _) hW) (hb'.up (Nat.le_refl _) hW)
  have H3 : Hid (∀ W, Kept w W → Calls Tryz.prog 71 #[lv, lv'] W fun e w' => e = .returned (.bool (St.sames x.els y.els)) ∧ Kept W w') :=
    fun W hW => sameBlock_of x.els y.els HL W lv lv' (hl.up (Nat.le_refl _) hW) (hl'.up (Nat.le_refl _) hW)
  have HQ : Hid _ := St.same_eq x y
  obtain ⟨a1, n1, q1, rfl⟩ := he.form
  obtain ⟨a2, n2, q2, rfl⟩ := hb.form
  obtain ⟨a3, n3, q3, rfl⟩ := hl.form
  obtain ⟨a4, n4, q4, rfl⟩ := he'.form
  obtain ⟨a5, n5, q5, rfl⟩ := hb'.form
  obtain ⟨a6, n6, q6, rfl⟩ := hl'.form
  clear HB HL he hb hl he' hb' hl'
  unfold Ex.val at H1
  unfold St.val
  cases h1 : (x.kind == y.kind) with
  | false =>
    rw [h1] at HQ
    go_enter Tryz.func97, Tryz.ntmps97
    go_wp2_with fail
    go_ret
    exact ⟨ret_bool HQ.out.symm, ((Kept.refl _).al _).al _⟩
  | true =>
  rw [h1] at HQ
  cases h2 : (x.name.toList == y.name.toList) with
  | false =>
    rw [h2] at HQ
    go_enter Tryz.func97, Tryz.ntmps97
    go_wp2_with fail
    go_ret
    exact ⟨ret_bool HQ.out.symm, ((Kept.refl _).al _).al _⟩
  | true =>
  rw [h2] at HQ
  cases h3 : (x.other.toList == y.other.toList) with
  | false =>
    rw [h3] at HQ
    go_enter Tryz.func97, Tryz.ntmps97
    go_wp2_with fail
    go_ret
    exact ⟨ret_bool HQ.out.symm, ((Kept.refl _).al _).al _⟩
  | true =>
  rw [h3] at HQ
  cases h4 : (x.n == y.n) with
  | false =>
    rw [h4] at HQ
    go_enter Tryz.func97, Tryz.ntmps97
    go_wp2_with fail
    go_ret
    exact ⟨ret_bool HQ.out.symm, ((Kept.refl _).al _).al _⟩
  | true =>
  rw [h4] at HQ
  go_enter Tryz.func97, Tryz.ntmps97
  go_wp2_with fail
  refine (H1.out _ (((Kept.refl _).al _).al _)).mono ?_
  rintro e w1 ⟨rfl, kw⟩
  have HB1 : Hid (Kept w w1) := (((Kept.refl _).al _).al _ : Kept w _).then kw
  obtain ⟨hc1, hf1⟩ := bcell kw
  cases h5 : x.e.same y.e with
  | false =>
    rw [h5] at HQ
    go_wp2_with fail
    go_ret
    exact ⟨ret_bool HQ.out.symm, HB1.out⟩
  | true =>
  rw [h5] at HQ
  go_wp2_with fail
  refine (H2.out _ HB1.out).mono ?_
  rintro e w2 ⟨rfl, kw2⟩
  have hz1 : w.heap.size + 1 < w1.heap.size := by have := kw.size; simp at this; omega
  have hz0 : w.heap.size < w1.heap.size := by omega
  clear kw
  have HB2 : Hid (Kept w w2) := HB1.out.then kw2
  obtain ⟨hc2, hf2⟩ := bcell kw2
  clear kw2
  cases h6 : St.sames x.body y.body with
  | false =>
    rw [h6] at HQ
    go_wp2_with fail
    go_ret
    exact ⟨ret_bool HQ.out.symm, HB2.out⟩
  | true =>
  rw [h6] at HQ
  go_wp2_with fail
  refine (H3.out _ HB2.out).mono ?_
  rintro e w3 ⟨rfl, kw3⟩
  have HB3 : Hid (Kept w w3) := HB2.out.then kw3
  clear kw3
  go_wp2_with fail
  go_ret
  exact ⟨ret_bool HQ.out.symm, HB3.out⟩

theorem sameStmt_any (x : St) : PSameS x := St.ind sameStmt_of x
theorem sameBlock_any (l m : List St) (w : World) (va vb : Value) (ha : StsIn w 0 w.heap.size l va) (hb : StsIn w 0 w.heap.size m vb) :
    Calls Tryz.prog 71 #[va, vb] w fun e w' => e = .returned (.bool (St.sames l m)) ∧ Kept w w' := sameBlock_of l m (fun x _ => sameStmt_any x) w va vb ha hb
end Go.Proofs.YtkobdephobaopaaGreatDoor

namespace Go.Proofs.YtkobdephobaopaaGreatDoor
open Go.RowKit
attribute [local go_sem] run_store_complex

set_option maxRecDepth 100000 in
set_option maxHeartbeats 400000 in
theorem sameDecl_any (x y : Dc) (w : World) : Calls Tryz.prog 69 #[x.val, y.val] w fun e w' => e = .returned (.bool (x.same y)) ∧ Kept w w' := by
  have HQ : Hid (x.same y = ((x.kind == y.kind) && ((x.name.toList == y.name.toList) && (x.n == y.n)))) := rfl
  unfold Dc.val
  cases h1 : (x.kind == y.kind) with
  | false =>
    rw [h1] at HQ
    go_enter Tryz.func69, Tryz.ntmps69
    go_wp2_with fail
    go_ret
    exact ⟨ret_bool HQ.out.symm, ((Kept.refl _).al _).al _⟩
  | true =>
  rw [h1] at HQ
  cases h2 : (x.name.toList == y.name.toList) with
  | false =>
    rw [h2] at HQ
    go_enter Tryz.func69, Tryz.ntmps69
    go_wp2_with fail
    go_ret
    exact ⟨ret_bool HQ.out.symm, ((Kept.refl _).al _).al _⟩
  | true =>
  rw [h2] at HQ
  go_enter Tryz.func69, Tryz.ntmps69
  go_wp2_with fail
  go_ret
  exact ⟨ret_bool HQ.out.symm, ((Kept.refl _).al _).al _⟩

set_option maxRecDepth 100000 in
set_option maxHeartbeats 1000000 in
theorem eqfDc (l m : List Dc) (w : World) (va vb : Value) (ha : DsIn w 0 w.heap.size l va) (hb : DsIn w 0 w.heap.size m vb) :
    Calls Tryz.prog 68 #[va, vb, .func (.func 69) #[] #[]] w fun e w' => e = .returned (.bool (Dc.sames l m)) ∧ Kept w w' := by
  have HA : Hid _ := ha
  have HA' : Hid _ := hb
  obtain ⟨a, cap, rfl, hl, hl2, hcap⟩ := ha.open
  obtain ⟨a', cap', rfl, hl', hl2', hcap'⟩ := hb.open
  clear ha hb
  by_cases hlm : l.length = m.length
  · have e1 : ((l.length : Int) != (m.length : Int)) = false := by rw [hlm]; simp
    have HLM : Hid (l.length = m.length) := hlm
    have hlm' : m.length ≤ l.length := by omega
    clear hlm
    go_enter Tryz.func68, Tryz.ntmps68
    go_wp2_with fail
    go_loopw [17] (fun i wr => ∃ k : Nat, i = .int .i64 (k : Int) ∧ k ≤ l.length ∧ Hid (Kept w wr) ∧ Hid (Dc.sames l m = Dc.sames (l.drop k) (m.drop k))) (fun i _ => l.length - (intOf i).toNat)
    case atStart => exact ⟨0, rfl, Nat.zero_le _, Kept.refl _, rfl⟩
    case round =>
      obtain ⟨k, rfl, hk, HB, HS⟩ := hrel
      by_cases hlt : k < l.length
      · have hki : (k : Int) < (l.length : Int) := by omega
        have hlt' : k < m.length := by have := HLM.out; omega
        have hki' : (k : Int) < (m.length : Int) := by omega
        have hz := HB.out.size
        obtain ⟨b, o, rfl, _, hb, _, c0, c1, c2, c3⟩ := HA.out.item (HB.out.stays (Nat.le_refl _)) k hlt
        obtain ⟨b', o', rfl, _, hb', _, d0, d1, d2, d3⟩ := HA'.out.item (HB.out.stays (Nat.le_refl _)) k hlt'
        have hzb : b < wr.heap.size := by omega
        have hzb' : b' < wr.heap.size := by omega
        have HS2 : Hid _ := HS.out.trans (Dc.sames_step l m k hlt hlt')
        go_wp2_with fail
        refine (sameDecl_any l[k] m[k] _).mono ?_
        rintro e w1 ⟨rfl, kw⟩
        have HB1 : Hid (Kept w w1) := (HB.out.then (((Kept.refl _).al _).al _)).then kw
        clear kw
        cases hr : l[k].same m[k] with
        | true =>
          rw [hr] at HS2
          go_wp2_with fail
          go_roundw
          case rel => exact ⟨k + 1, by go_num, by omega, HB1, HS2⟩
          case measure => simp [intOf]; omega
        | false =>
          rw [hr] at HS2
          go_wp2_with fail
          go_ret
          exact ⟨ret_bool HS2.out.symm, HB1.out⟩
      · have hki : ¬ (k : Int) < (l.length : Int) := by omega
        have HE : Hid _ := HS.out.trans (Dc.sames_end l m k (by omega) (by omega))
        go_wp2_with fail
        go_ret
        exact ⟨ret_bool HE.out.symm, HB.out⟩
  · have e1 : ((l.length : Int) != (m.length : Int)) = true := by simp; omega
    have HE : Hid _ := Dc.sames_len l m hlm
    go_enter Tryz.func68, Tryz.ntmps68
    go_wp2_with fail
    go_ret
    exact ⟨ret_bool HE.out.symm, Kept.refl _⟩

set_option maxRecDepth 100000 in
set_option maxHeartbeats 1000000 in
theorem eqfTs (l m : List (List St)) (w : World) (va vb : Value) (ha : TsIn w 0 w.heap.size l va) (hb : TsIn w 0 w.heap.size m vb) :
    Calls Tryz.prog 70 #[va, vb, .func (.func 71) #[] #[]] w fun e w' => e = .returned (.bool (sameTs l m)) ∧ Kept w w' := by
  have HA : Hid _ := ha
  have HA' : Hid _ := hb
  obtain ⟨a, cap, rfl, hl, hl2, hcap⟩ := ha.open
  obtain ⟨a', cap', rfl, hl', hl2', hcap'⟩ := hb.open
  clear ha hb
  by_cases hlm : l.length = m.length
  · have e1 : ((l.length : Int) != (m.length : Int)) = false := by rw [hlm]; simp
    have HLM : Hid (l.length = m.length) := hlm
    have hlm' : m.length ≤ l.length := by omega
    clear hlm
    go_enter Tryz.func70, Tryz.ntmps70
    go_wp2_with fail
    go_loopw [17] (fun i wr => ∃ k : Nat, i = .int .i64 (k : Int) ∧ k ≤ l.length ∧ Hid (Kept w wr) ∧ Hid (sameTs l m = sameTs (l.drop k) (m.drop k))) (fun i _ => l.length - (intOf i).toNat)
    case atStart => exact ⟨0, rfl, Nat.zero_le _, Kept.refl _, rfl⟩
    case round =>
      obtain ⟨k, rfl, hk, HB, HS⟩ := hrel
      by_cases hlt : k < l.length
      · have hki : (k : Int) < (l.length : Int) := by omega
        have hlt' : k < m.length := by have := HLM.out; omega
        have hki' : (k : Int) < (m.length : Int) := by omega
        have hz := HB.out.size
        obtain ⟨b, o, a1, n1, q1, rfl, _, hb, _, c0, k1⟩ := HA.out.item (HB.out.stays (Nat.le_refl _)) k hlt
        obtain ⟨b', o', a1', n1', q1', rfl, _, hb', _, d0, k1'⟩ := HA'.out.item (HB.out.stays (Nat.le_refl _)) k hlt'
        have hzb : b < wr.heap.size := by omega
        have hzb' : b' < wr.heap.size := by omega
        have K : Hid _ := And.intro k1 k1'
        clear k1 k1'
        have HS2 : Hid _ := HS.out.trans (sameTs_step l m k hlt hlt')
        go_wp2_with fail
        refine (sameBlock_any l[k] m[k] _ _ _ (K.out.1.up hz (Kept.refl _)) (K.out.2.up hz (Kept.refl _))).mono ?_
        rintro e w1 ⟨rfl, kw⟩
        have HB1 : Hid (Kept w w1) := HB.out.then kw
        clear kw
        cases hr : St.sames l[k] m[k] with
        | true =>
          rw [hr] at HS2
          go_wp2_with fail
          go_roundw
          case rel => exact ⟨k + 1, by go_num, by omega, HB1, HS2⟩
          case measure => simp [intOf]; omega
        | false =>
          rw [hr] at HS2
          go_wp2_with fail
          go_ret
          exact ⟨ret_bool HS2.out.symm, HB1.out⟩
      · have hki : ¬ (k : Int) < (l.length : Int) := by omega
        have HE : Hid _ := HS.out.trans (sameTs_end l m k (by omega) (by omega))
        go_wp2_with fail
        go_ret
        exact ⟨ret_bool HE.out.symm, HB.out⟩
  · have e1 : ((l.length : Int) != (m.length : Int)) = true := by simp; omega
    have HE : Hid _ := sameTs_len l m hlm
    go_enter Tryz.func70, Tryz.ntmps70
    go_wp2_with fail
    go_ret
    exact ⟨ret_bool HE.out.symm, Kept.refl _⟩

set_option maxRecDepth 100000 in
set_option maxHeartbeats 1000000 in
theorem same_any (d d' : List Dc) (t t' : List (List St)) (w : World) (dv tv dv' tv' : Value) (hd : DsIn w 0 w.heap.size d dv) (ht : TsIn w 0 w.heap.size t tv) (hd' : DsIn w 0 w.heap.size d' dv') (ht' : TsIn w 0 w.heap.size t' tv') :
    Calls Tryz.prog 41 #[.agg #[dv, tv], .agg #[dv', tv']] w fun e w' => e = .returned (.bool (Dc.sames d d' && sameTs t t')) ∧ Kept w w' := by
  have H1 : Hid (∀ W, Kept w W → Calls Tryz.prog 68 #[dv, dv', .func (.func 69) #[] #[]] W fun e w' => e = .returned (.bool (Dc.sames d d')) ∧ Kept W w') :=
    fun W hW => eqfDc d d' W dv dv' (hd.up (Nat.le_refl _) hW) (hd'.up (Nat.le_refl _) hW)
  have H2 : Hid (∀ W, Kept w W → Calls Tryz.prog 70 #[tv, tv', .func (.func 71) #[] #[]] W fun e w' => e = .returned (.bool (sameTs t t')) ∧ Kept W w') :=
    fun W hW => eqfTs t t' W tv tv' (ht.up (Nat.le_refl _) hW) (ht'.up (Nat.le_refl _) hW)
  obtain ⟨a1, q1, rfl, -⟩ := hd.open
  obtain ⟨a2, q2, rfl, -⟩ := ht.open
  obtain ⟨a3, q3, rfl, -⟩ := hd'.open
  obtain ⟨a4, q4, rfl, -⟩ := ht'.open
  clear hd ht hd' ht'
  go_enter Tryz.func41, Tryz.ntmps41
  go_wp2_with fail
  refine (H1.out _ (((Kept.refl _).al _).al _)).mono ?_
  rintro e w1 ⟨rfl, kw⟩
  have HB1 : Hid (Kept w w1) := (((Kept.refl _).al _).al _ : Kept w _).then kw
  obtain ⟨hc1, hf1⟩ := bcell kw
  clear kw
  cases h1 : Dc.sames d d' with
  | false =>
    go_wp2_with fail
    go_ret
    exact ⟨ret_bool (by simp [h1]), HB1.out⟩
  | true =>
  go_wp2_with fail
  refine (H2.out _ HB1.out).mono ?_
  rintro e w2 ⟨rfl, kw2⟩
  have HB2 : Hid (Kept w w2) := HB1.out.then kw2
  clear kw2
  go_wp2_with fail
  go_ret
  exact ⟨ret_bool (by simp [h1]), HB2.out⟩
end Go.Proofs.YtkobdephobaopaaGreatDoor
