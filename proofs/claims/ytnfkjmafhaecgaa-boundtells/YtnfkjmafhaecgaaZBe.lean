/- Be -/
import Derived.Test.YtnfkjmafhaecgaaZBc

namespace Go.Proofs.Ytnfkjmafhaecgaa
open Go.RowKit Bn
attribute [local go_sem] run_store_complex
set_option maxRecDepth 100000 in
set_option maxHeartbeats 2000000 in
theorem bblock_of (l : List St) (H : ∀ x ∈ l, PBk x.body ∧ PBk x.els) : PBk l := by
  intro w bv hb hn
  have HA : Hid _ := hb
  have HH : Hid (∀ x ∈ l, PBk x.body ∧ PBk x.els) := H
  have HN : Hid (NumL l) := hn
  obtain ⟨a, cap', rfl, hl, hl2, hcap⟩ := hb.open
  clear hb H hn
  go_enter Try.func38, Try.ntmps38
  go_wp2_with fail
  go_loopw [3, 8] (fun n i wr => ∃ (k m : Nat), n = .int .i64 (m : Int) ∧ i = .int .i64 (k : Int) ∧ k ≤ l.length ∧ m ≤ 2147483647 ∧ Hid (m = cap (sns (l.take k)) ∧ Kept w wr)) (fun _ i _ => l.length - (intOf i).toNat)
  case atStart => exact ⟨0, 0, rfl, rfl, Nat.zero_le _, by omega, by simp [sns]; rfl, Kept.refl _⟩
  case round =>
    obtain ⟨k, m, rfl, rfl, hk, hm, HI⟩ := hrel
    by_cases hlt : k < l.length
    · have hki : (k : Int) < (l.length : Int) := by omega
      have hz := HI.out.2.size
      obtain ⟨b, o, a1, n1, q1, a2, n2, q2, a3, n3, q3, rfl, _, hb, _, c0, c1, c2, c3, c4, c5, c6, c7, c8, c9, c10, k1, k2, k3⟩ := HA.out.item (HI.out.2.stays (Nat.le_refl _)) k hlt
      have hzb : b < wr.heap.size := by omega
      have G : Hid (∀ W, Kept wr W → Calls Try.prog 55 #[.agg #[.int .i64 l[k].kind, .string l[k].name, .string l[k].other, .int .i64 l[k].n, .int .i64 l[k].e.kind, .int .i64 l[k].e.n, .string l[k].e.name, .slice a1 n1 q1, .slice a2 n2 q2, .slice a3 n3 q3, .complex .f64 l[k].re l[k].im]] W fun r w' => r = .returned (.int .i64 (cap (sn l[k]) : Int)) ∧ Kept W w') := by
        intro W hW
        obtain ⟨o1, o2, o3⟩ := HN.out.own (List.getElem_mem hlt)
        exact bstmt_of l[k] (HH.out _ (List.getElem_mem hlt)) W a1 a2 a3 n1 n2 n3 q1 q2 q3 (k1.up hz hW) (k2.up hz hW) (k3.up hz hW) o1 o2 o3
      have HM : Hid (cap (m + cap (sn l[k])) = cap (sns (l.take (k + 1)))) := by
        show _ = _; rw [HI.out.1, cap_add, sns_take l k hlt]
      have hcl := cap_le (sn l[k])
      have hcl2 := cap_le (m + cap (sn l[k]))
      clear k1 k2 k3
      go_wp2_with fail
      refine (G.out _ ((Kept.refl wr).al _)).mono ?_
      rintro r w6 ⟨rfl, kw⟩
      have KF : Hid (Kept w w6) := HI.out.2.then (((Kept.refl wr).al _).then kw)
      clear kw c0 c1 c2 c3 c4 c5 c6 c7 c8 c9 c10
      go_wp2_with fail
      refine (bplus_any m (cap (sn l[k])) hm hcl _).mono ?_
      rintro r w7 ⟨rfl, rfl⟩
      go_wp2_with fail
      go_roundw
      case rel => exact ⟨k + 1, _, rfl, by go_num, by omega, hcl2, HM.out, KF.out⟩
      case measure => simp [intOf]; omega
    · have hki : ¬ (k : Int) < (l.length : Int) := by omega
      have HM : Hid (m = cap (sns l)) := by
        have := HI.out.1
        rw [List.take_of_length_le (by omega)] at this
        exact this
      go_wp2_with fail
      go_ret
      exact ⟨ret_int (by rw [HM.out]), HI.out.2⟩
theorem bblock_any (l : List St) : PBk l :=
  bblock_of l fun x _ => St.ind (P := fun x => PBk x.body ∧ PBk x.els) (fun s hb hl => ⟨bblock_of s.body hb, bblock_of s.els hl⟩) x
end Go.Proofs.Ytnfkjmafhaecgaa
