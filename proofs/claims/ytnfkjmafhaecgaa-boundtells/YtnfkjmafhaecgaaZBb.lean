/- Bb -/
import Derived.Test.YtnfkjmafhaecgaaZBa
import Derived.Deep.RegionHeld3

namespace Go.Proofs.Ytnfkjmafhaecgaa
open Go.RowKit Bn
attribute [local go_sem] run_store_complex
/-- What bound.Expr tells of e. -/
def PBe8 (e : Ex) : Prop := ∀ (w : World) (va : Value), ExsIn w 0 w.heap.size e.of va →
  Calls Try.prog 22 #[e.val va] w fun r w' => r = .returned (.int .i64 (cap (en e) : Int)) ∧ Kept w w'
/-- What the document's Expr tells of e. -/
def PRe (e : Ex) : Prop := ∀ (w : World) (va : Value), ExsIn w 0 w.heap.size e.of va → e.size ≤ 1152921504606846976 →
  Calls Try.prog 26 #[e.val va] w fun r w' => r = .returned (.int .i64 (en e : Int)) ∧ Kept w w'
set_option maxRecDepth 100000 in
set_option maxHeartbeats 2000000 in
theorem bexpr_of (e : Ex) (H : ∀ y ∈ e.of, PBe8 y) : PBe8 e := by
  intro w va ha
  have HA : Hid _ := ha
  have HH : Hid (∀ y ∈ e.of, PBe8 y) := H
  have heq := en_eq e
  obtain ⟨a, cap', rfl, hl, hl2, hcap⟩ := ha.open
  obtain ⟨z, hz⟩ : ∃ z, own e.kind = z := ⟨_, rfl⟩
  have HZ : Hid (en e = z + ens e.of) := by show _ = _; rw [heq, hz]
  clear ha H heq
  unfold Ex.val
  by_cases hkd : 1 ≤ e.kind ∧ e.kind ≤ 10
  · obtain ⟨hk1, hk2⟩ := hkd
    have hk3 : e.kind ≥ 1 := hk1
    have hzv : z = 1 := by rw [← hz]; unfold own; rw [if_pos ⟨hk1, hk2⟩]
    clear hz
    go_enter Try.func22, Try.ntmps22
    go_wp2_with fail
    obtain ⟨W, hW⟩ : ∃ W, w.alloc (.cells #[.int .i64 e.kind, .int .i64 e.n, .string e.name, .slice a e.of.length cap'] 44) = W := ⟨_, rfl⟩
    have KW : Hid (Kept w W) := by rw [← hW]; exact (Kept.refl _).al _
    rw [hW]
    clear hW
    go_loopw [3, 17] (fun n i wr => ∃ (k m : Nat), n = .int .i64 (m : Int) ∧ i = .int .i64 (k : Int) ∧ k ≤ e.of.length ∧ m ≤ 2147483647 ∧ Hid (m = cap (z + ens (e.of.take k)) ∧ Kept w wr)) (fun _ i _ => e.of.length - (intOf i).toNat)
    case atStart => exact ⟨0, 1, by go_num, rfl, Nat.zero_le _, by omega, by rw [hzv]; rfl, KW.out⟩
    case round =>
      obtain ⟨k, m, rfl, rfl, hk, hm, HI⟩ := hrel
      have hz := HI.out.2.size
      by_cases hlt : k < e.of.length
      · have hki : (k : Int) < (e.of.length : Int) := by omega
        obtain ⟨b, o, a1, n1, q1, rfl, _, hb, _, c0, c1, c2, c3, k1⟩ := HA.out.item (HI.out.2.stays (Nat.le_refl _)) k hlt
        have hzb : b < wr.heap.size := by omega
        have P : Hid (∀ W, Kept wr W → Calls Try.prog 22 #[.agg #[.int .i64 e.of[k].kind, .int .i64 e.of[k].n, .string e.of[k].name, .slice a1 n1 q1]] W fun r w' => r = .returned (.int .i64 (cap (en e.of[k]) : Int)) ∧ Kept W w') := by
          intro W hW
          exact HH.out _ (List.getElem_mem hlt) W _ (k1.up hz hW)
        have HM : Hid (cap (m + cap (en e.of[k])) = cap (z + ens (e.of.take (k + 1)))) := by
          show _ = _; rw [HI.out.1, cap_add, ens_take e.of k hlt, Nat.add_assoc]
        have hcl := cap_le (en e.of[k])
        have hcl2 := cap_le (m + cap (en e.of[k]))
        clear k1
        go_wp2_with fail
        refine (P.out _ ((Kept.refl wr).al _)).mono ?_
        rintro r w6 ⟨rfl, kw⟩
        have KF : Hid (Kept w w6) := HI.out.2.then (((Kept.refl wr).al _).then kw)
        clear kw
        go_wp2_with fail
        refine (bplus_any m (cap (en e.of[k])) hm hcl _).mono ?_
        rintro r w7 ⟨rfl, rfl⟩
        go_wp2_with fail
        go_roundw
        case rel => exact ⟨k + 1, _, rfl, by go_num, by omega, hcl2, HM.out, KF.out⟩
        case measure => simp [intOf]; omega
      · have hki : ¬ (k : Int) < (e.of.length : Int) := by omega
        have HM : Hid (m = cap (en e)) := by
          have := HI.out.1
          rw [List.take_of_length_le (by omega)] at this
          show _ = _; rw [this, HZ.out]
        go_wp2_with fail
        go_ret
        exact ⟨ret_int (by rw [HM.out]), HI.out.2⟩
  · have hzv : z = 0 := by rw [← hz]; unfold own; rw [if_neg hkd]
    clear hz
    by_cases hk1 : e.kind ≥ 1
    · have hk2 : ¬ e.kind ≤ 10 := fun h => hkd ⟨hk1, h⟩
      clear hkd
      go_enter Try.func22, Try.ntmps22
      go_wp2_with fail
      obtain ⟨W, hW⟩ : ∃ W, w.alloc (.cells #[.int .i64 e.kind, .int .i64 e.n, .string e.name, .slice a e.of.length cap'] 44) = W := ⟨_, rfl⟩
      have KW : Hid (Kept w W) := by rw [← hW]; exact (Kept.refl _).al _
      rw [hW]
      clear hW
      go_loopw [3, 17] (fun n i wr => ∃ (k m : Nat), n = .int .i64 (m : Int) ∧ i = .int .i64 (k : Int) ∧ k ≤ e.of.length ∧ m ≤ 2147483647 ∧ Hid (m = cap (z + ens (e.of.take k)) ∧ Kept w wr)) (fun _ i _ => e.of.length - (intOf i).toNat)
      case atStart => exact ⟨0, 0, by go_num, rfl, Nat.zero_le _, by omega, by rw [hzv]; rfl, KW.out⟩
      case round =>
        obtain ⟨k, m, rfl, rfl, hk, hm, HI⟩ := hrel
        have hz := HI.out.2.size
        by_cases hlt : k < e.of.length
        · have hki : (k : Int) < (e.of.length : Int) := by omega
          obtain ⟨b, o, a1, n1, q1, rfl, _, hb, _, c0, c1, c2, c3, k1⟩ := HA.out.item (HI.out.2.stays (Nat.le_refl _)) k hlt
          have hzb : b < wr.heap.size := by omega
          have P : Hid (∀ W, Kept wr W → Calls Try.prog 22 #[.agg #[.int .i64 e.of[k].kind, .int .i64 e.of[k].n, .string e.of[k].name, .slice a1 n1 q1]] W fun r w' => r = .returned (.int .i64 (cap (en e.of[k]) : Int)) ∧ Kept W w') := by
            intro W hW
            exact HH.out _ (List.getElem_mem hlt) W _ (k1.up hz hW)
          have HM : Hid (cap (m + cap (en e.of[k])) = cap (z + ens (e.of.take (k + 1)))) := by
            show _ = _; rw [HI.out.1, cap_add, ens_take e.of k hlt, Nat.add_assoc]
          have hcl := cap_le (en e.of[k])
          have hcl2 := cap_le (m + cap (en e.of[k]))
          clear k1
          go_wp2_with fail
          refine (P.out _ ((Kept.refl wr).al _)).mono ?_
          rintro r w6 ⟨rfl, kw⟩
          have KF : Hid (Kept w w6) := HI.out.2.then (((Kept.refl wr).al _).then kw)
          clear kw
          go_wp2_with fail
          refine (bplus_any m (cap (en e.of[k])) hm hcl _).mono ?_
          rintro r w7 ⟨rfl, rfl⟩
          go_wp2_with fail
          go_roundw
          case rel => exact ⟨k + 1, _, rfl, by go_num, by omega, hcl2, HM.out, KF.out⟩
          case measure => simp [intOf]; omega
        · have hki : ¬ (k : Int) < (e.of.length : Int) := by omega
          have HM : Hid (m = cap (en e)) := by
            have := HI.out.1
            rw [List.take_of_length_le (by omega)] at this
            show _ = _; rw [this, HZ.out]
          go_wp2_with fail
          go_ret
          exact ⟨ret_int (by rw [HM.out]), HI.out.2⟩
    · clear hkd
      go_enter Try.func22, Try.ntmps22
      go_wp2_with fail
      obtain ⟨W, hW⟩ : ∃ W, w.alloc (.cells #[.int .i64 e.kind, .int .i64 e.n, .string e.name, .slice a e.of.length cap'] 44) = W := ⟨_, rfl⟩
      have KW : Hid (Kept w W) := by rw [← hW]; exact (Kept.refl _).al _
      rw [hW]
      clear hW
      go_loopw [3, 17] (fun n i wr => ∃ (k m : Nat), n = .int .i64 (m : Int) ∧ i = .int .i64 (k : Int) ∧ k ≤ e.of.length ∧ m ≤ 2147483647 ∧ Hid (m = cap (z + ens (e.of.take k)) ∧ Kept w wr)) (fun _ i _ => e.of.length - (intOf i).toNat)
      case atStart => exact ⟨0, 0, by go_num, rfl, Nat.zero_le _, by omega, by rw [hzv]; rfl, KW.out⟩
      case round =>
        obtain ⟨k, m, rfl, rfl, hk, hm, HI⟩ := hrel
        have hz := HI.out.2.size
        by_cases hlt : k < e.of.length
        · have hki : (k : Int) < (e.of.length : Int) := by omega
          obtain ⟨b, o, a1, n1, q1, rfl, _, hb, _, c0, c1, c2, c3, k1⟩ := HA.out.item (HI.out.2.stays (Nat.le_refl _)) k hlt
          have hzb : b < wr.heap.size := by omega
          have P : Hid (∀ W, Kept wr W → Calls Try.prog 22 #[.agg #[.int .i64 e.of[k].kind, .int .i64 e.of[k].n, .string e.of[k].name, .slice a1 n1 q1]] W fun r w' => r = .returned (.int .i64 (cap (en e.of[k]) : Int)) ∧ Kept W w') := by
            intro W hW
            exact HH.out _ (List.getElem_mem hlt) W _ (k1.up hz hW)
          have HM : Hid (cap (m + cap (en e.of[k])) = cap (z + ens (e.of.take (k + 1)))) := by
            show _ = _; rw [HI.out.1, cap_add, ens_take e.of k hlt, Nat.add_assoc]
          have hcl := cap_le (en e.of[k])
          have hcl2 := cap_le (m + cap (en e.of[k]))
          clear k1
          go_wp2_with fail
          refine (P.out _ ((Kept.refl wr).al _)).mono ?_
          rintro r w6 ⟨rfl, kw⟩
          have KF : Hid (Kept w w6) := HI.out.2.then (((Kept.refl wr).al _).then kw)
          clear kw
          go_wp2_with fail
          refine (bplus_any m (cap (en e.of[k])) hm hcl _).mono ?_
          rintro r w7 ⟨rfl, rfl⟩
          go_wp2_with fail
          go_roundw
          case rel => exact ⟨k + 1, _, rfl, by go_num, by omega, hcl2, HM.out, KF.out⟩
          case measure => simp [intOf]; omega
        · have hki : ¬ (k : Int) < (e.of.length : Int) := by omega
          have HM : Hid (m = cap (en e)) := by
            have := HI.out.1
            rw [List.take_of_length_le (by omega)] at this
            show _ = _; rw [this, HZ.out]
          go_wp2_with fail
          go_ret
          exact ⟨ret_int (by rw [HM.out]), HI.out.2⟩
theorem bexpr_any (e : Ex) : PBe8 e := Ex.ind bexpr_of e
set_option maxRecDepth 100000 in
set_option maxHeartbeats 2000000 in
theorem rnum_of (e : Ex) (H : ∀ y ∈ e.of, PRe y) : PRe e := by
  intro w va ha hn
  have HA : Hid _ := ha
  have HH : Hid (∀ y ∈ e.of, PRe y) := H
  have heq := en_eq e
  have hsz := Ex.size_eq e
  have hes := en_size e
  obtain ⟨a, cap', rfl, hl, hl2, hcap⟩ := ha.open
  obtain ⟨z, hz⟩ : ∃ z, own e.kind = z := ⟨_, rfl⟩
  have HZ : Hid (en e = z + ens e.of) := by show _ = _; rw [heq, hz]
  have HS : Hid (Ex.sizes e.of ≤ 1152921504606846976) := by show _ ≤ _; omega
  have HE : Hid (z + ens e.of ≤ 1152921504606846976) := by show _ ≤ _; omega
  clear ha H heq hsz hes hn
  unfold Ex.val
  by_cases hkd : 1 ≤ e.kind ∧ e.kind ≤ 10
  · obtain ⟨hk1, hk2⟩ := hkd
    have hk3 : e.kind ≥ 1 := hk1
    have hzv : z = 1 := by rw [← hz]; unfold own; rw [if_pos ⟨hk1, hk2⟩]
    clear hz
    go_enter Try.func26, Try.ntmps26
    go_wp2_with fail
    obtain ⟨W, hW⟩ : ∃ W, w.alloc (.cells #[.int .i64 e.kind, .int .i64 e.n, .string e.name, .slice a e.of.length cap'] 44) = W := ⟨_, rfl⟩
    have KW : Hid (Kept w W) := by rw [← hW]; exact (Kept.refl _).al _
    have b3 : W.cell? ⟨w.heap.size, 3, none⟩ = some (.slice a e.of.length cap') := by rw [← hW]; simp
    rw [hW]
    clear hW
    go_loopw [3, 4] (fun n i wr => ∃ (k m : Nat), n = .int .i64 (m : Int) ∧ i = .int .i64 (k : Int) ∧ k ≤ e.of.length ∧ m ≤ 1152921504606846976 ∧ wr.cell? ⟨w.heap.size, 3, none⟩ = some (.slice a e.of.length cap') ∧ Hid (m = z + ens (e.of.take k) ∧ Kept w wr)) (fun _ i _ => e.of.length - (intOf i).toNat)
    case atStart => exact ⟨0, 1, by go_num, rfl, Nat.zero_le _, by omega, b3, by rw [hzv]; rfl, KW.out⟩
    case round =>
      clear b3
      obtain ⟨k, m, rfl, rfl, hk, hm, b3, HI⟩ := hrel
      have hz := HI.out.2.size
      by_cases hlt : k < e.of.length
      · have hki : (k : Int) < (e.of.length : Int) := by omega
        obtain ⟨b, o, a1, n1, q1, rfl, _, hb, _, c0, c1, c2, c3, k1⟩ := HA.out.item (HI.out.2.stays (Nat.le_refl _)) k hlt
        have hzb : b < wr.heap.size := by omega
        have hsk : e.of[k].size ≤ 1152921504606846976 := by
          have h1 := Ex.sizes_take e.of k hlt
          have h2 := Ex.sizes_take_le e.of (k + 1)
          have := HS.out; omega
        have P : Hid (∀ W, Kept wr W → Calls Try.prog 26 #[.agg #[.int .i64 e.of[k].kind, .int .i64 e.of[k].n, .string e.of[k].name, .slice a1 n1 q1]] W fun r w' => r = .returned (.int .i64 (en e.of[k] : Int)) ∧ Kept W w') := by
          intro W hW
          exact HH.out _ (List.getElem_mem hlt) W _ (k1.up hz hW) hsk
        have HM : Hid (m + en e.of[k] = z + ens (e.of.take (k + 1))) := by
          show _ = _; rw [HI.out.1, ens_take e.of k hlt, Nat.add_assoc]
        have hml : m + en e.of[k] ≤ 1152921504606846976 := by
          have h1 := ens_take_le e.of (k + 1)
          have h2 := HM.out
          have := HE.out; omega
        have hwr : IntKind.i64.wrap ((m : Int) + (en e.of[k] : Int)) = ((m + en e.of[k] : Nat) : Int) := by rw [IntKind.wrap_i64]; omega
        clear k1
        go_wp2_with fail
        refine (P.out _ (Kept.refl wr)).mono ?_
        rintro r w6 ⟨rfl, kw⟩
        have b6 := kw.cellS b3
        have KF : Hid (Kept w w6) := HI.out.2.then kw
        clear kw
        go_wp2_with fail
        go_roundw
        case rel => exact ⟨k + 1, m + en e.of[k], by go_num, by go_num, by omega, hml, b6, HM.out, KF.out⟩
        case measure => simp [intOf]; omega
      · have hki : ¬ (k : Int) < (e.of.length : Int) := by omega
        have HM : Hid (m = en e) := by
          have := HI.out.1
          rw [List.take_of_length_le (by omega)] at this
          show _ = _; rw [this, HZ.out]
        go_wp2_with fail
        go_ret
        exact ⟨ret_int (by rw [HM.out]), HI.out.2⟩
  · have hzv : z = 0 := by rw [← hz]; unfold own; rw [if_neg hkd]
    clear hz
    by_cases hk1 : e.kind ≥ 1
    · have hk2 : ¬ e.kind ≤ 10 := fun h => hkd ⟨hk1, h⟩
      clear hkd
      go_enter Try.func26, Try.ntmps26
      go_wp2_with fail
      obtain ⟨W, hW⟩ : ∃ W, w.alloc (.cells #[.int .i64 e.kind, .int .i64 e.n, .string e.name, .slice a e.of.length cap'] 44) = W := ⟨_, rfl⟩
      have KW : Hid (Kept w W) := by rw [← hW]; exact (Kept.refl _).al _
      have b3 : W.cell? ⟨w.heap.size, 3, none⟩ = some (.slice a e.of.length cap') := by rw [← hW]; simp
      rw [hW]
      clear hW
      go_loopw [3, 4] (fun n i wr => ∃ (k m : Nat), n = .int .i64 (m : Int) ∧ i = .int .i64 (k : Int) ∧ k ≤ e.of.length ∧ m ≤ 1152921504606846976 ∧ wr.cell? ⟨w.heap.size, 3, none⟩ = some (.slice a e.of.length cap') ∧ Hid (m = z + ens (e.of.take k) ∧ Kept w wr)) (fun _ i _ => e.of.length - (intOf i).toNat)
      case atStart => exact ⟨0, 0, by go_num, rfl, Nat.zero_le _, by omega, b3, by rw [hzv]; rfl, KW.out⟩
      case round =>
        clear b3
        obtain ⟨k, m, rfl, rfl, hk, hm, b3, HI⟩ := hrel
        have hz := HI.out.2.size
        by_cases hlt : k < e.of.length
        · have hki : (k : Int) < (e.of.length : Int) := by omega
          obtain ⟨b, o, a1, n1, q1, rfl, _, hb, _, c0, c1, c2, c3, k1⟩ := HA.out.item (HI.out.2.stays (Nat.le_refl _)) k hlt
          have hzb : b < wr.heap.size := by omega
          have hsk : e.of[k].size ≤ 1152921504606846976 := by
            have h1 := Ex.sizes_take e.of k hlt
            have h2 := Ex.sizes_take_le e.of (k + 1)
            have := HS.out; omega
          have P : Hid (∀ W, Kept wr W → Calls Try.prog 26 #[.agg #[.int .i64 e.of[k].kind, .int .i64 e.of[k].n, .string e.of[k].name, .slice a1 n1 q1]] W fun r w' => r = .returned (.int .i64 (en e.of[k] : Int)) ∧ Kept W w') := by
            intro W hW
            exact HH.out _ (List.getElem_mem hlt) W _ (k1.up hz hW) hsk
          have HM : Hid (m + en e.of[k] = z + ens (e.of.take (k + 1))) := by
            show _ = _; rw [HI.out.1, ens_take e.of k hlt, Nat.add_assoc]
          have hml : m + en e.of[k] ≤ 1152921504606846976 := by
            have h1 := ens_take_le e.of (k + 1)
            have h2 := HM.out
            have := HE.out; omega
          have hwr : IntKind.i64.wrap ((m : Int) + (en e.of[k] : Int)) = ((m + en e.of[k] : Nat) : Int) := by rw [IntKind.wrap_i64]; omega
          clear k1
          go_wp2_with fail
          refine (P.out _ (Kept.refl wr)).mono ?_
          rintro r w6 ⟨rfl, kw⟩
          have b6 := kw.cellS b3
          have KF : Hid (Kept w w6) := HI.out.2.then kw
          clear kw
          go_wp2_with fail
          go_roundw
          case rel => exact ⟨k + 1, m + en e.of[k], by go_num, by go_num, by omega, hml, b6, HM.out, KF.out⟩
          case measure => simp [intOf]; omega
        · have hki : ¬ (k : Int) < (e.of.length : Int) := by omega
          have HM : Hid (m = en e) := by
            have := HI.out.1
            rw [List.take_of_length_le (by omega)] at this
            show _ = _; rw [this, HZ.out]
          go_wp2_with fail
          go_ret
          exact ⟨ret_int (by rw [HM.out]), HI.out.2⟩
    · clear hkd
      go_enter Try.func26, Try.ntmps26
      go_wp2_with fail
      obtain ⟨W, hW⟩ : ∃ W, w.alloc (.cells #[.int .i64 e.kind, .int .i64 e.n, .string e.name, .slice a e.of.length cap'] 44) = W := ⟨_, rfl⟩
      have KW : Hid (Kept w W) := by rw [← hW]; exact (Kept.refl _).al _
      have b3 : W.cell? ⟨w.heap.size, 3, none⟩ = some (.slice a e.of.length cap') := by rw [← hW]; simp
      rw [hW]
      clear hW
      go_loopw [3, 4] (fun n i wr => ∃ (k m : Nat), n = .int .i64 (m : Int) ∧ i = .int .i64 (k : Int) ∧ k ≤ e.of.length ∧ m ≤ 1152921504606846976 ∧ wr.cell? ⟨w.heap.size, 3, none⟩ = some (.slice a e.of.length cap') ∧ Hid (m = z + ens (e.of.take k) ∧ Kept w wr)) (fun _ i _ => e.of.length - (intOf i).toNat)
      case atStart => exact ⟨0, 0, by go_num, rfl, Nat.zero_le _, by omega, b3, by rw [hzv]; rfl, KW.out⟩
      case round =>
        clear b3
        obtain ⟨k, m, rfl, rfl, hk, hm, b3, HI⟩ := hrel
        have hz := HI.out.2.size
        by_cases hlt : k < e.of.length
        · have hki : (k : Int) < (e.of.length : Int) := by omega
          obtain ⟨b, o, a1, n1, q1, rfl, _, hb, _, c0, c1, c2, c3, k1⟩ := HA.out.item (HI.out.2.stays (Nat.le_refl _)) k hlt
          have hzb : b < wr.heap.size := by omega
          have hsk : e.of[k].size ≤ 1152921504606846976 := by
            have h1 := Ex.sizes_take e.of k hlt
            have h2 := Ex.sizes_take_le e.of (k + 1)
            have := HS.out; omega
          have P : Hid (∀ W, Kept wr W → Calls Try.prog 26 #[.agg #[.int .i64 e.of[k].kind, .int .i64 e.of[k].n, .string e.of[k].name, .slice a1 n1 q1]] W fun r w' => r = .returned (.int .i64 (en e.of[k] : Int)) ∧ Kept W w') := by
            intro W hW
            exact HH.out _ (List.getElem_mem hlt) W _ (k1.up hz hW) hsk
          have HM : Hid (m + en e.of[k] = z + ens (e.of.take (k + 1))) := by
            show _ = _; rw [HI.out.1, ens_take e.of k hlt, Nat.add_assoc]
          have hml : m + en e.of[k] ≤ 1152921504606846976 := by
            have h1 := ens_take_le e.of (k + 1)
            have h2 := HM.out
            have := HE.out; omega
          have hwr : IntKind.i64.wrap ((m : Int) + (en e.of[k] : Int)) = ((m + en e.of[k] : Nat) : Int) := by rw [IntKind.wrap_i64]; omega
          clear k1
          go_wp2_with fail
          refine (P.out _ (Kept.refl wr)).mono ?_
          rintro r w6 ⟨rfl, kw⟩
          have b6 := kw.cellS b3
          have KF : Hid (Kept w w6) := HI.out.2.then kw
          clear kw
          go_wp2_with fail
          go_roundw
          case rel => exact ⟨k + 1, m + en e.of[k], by go_num, by go_num, by omega, hml, b6, HM.out, KF.out⟩
          case measure => simp [intOf]; omega
        · have hki : ¬ (k : Int) < (e.of.length : Int) := by omega
          have HM : Hid (m = en e) := by
            have := HI.out.1
            rw [List.take_of_length_le (by omega)] at this
            show _ = _; rw [this, HZ.out]
          go_wp2_with fail
          go_ret
          exact ⟨ret_int (by rw [HM.out]), HI.out.2⟩
theorem rnum_any (e : Ex) : PRe e := Ex.ind rnum_of e
end Go.Proofs.Ytnfkjmafhaecgaa
