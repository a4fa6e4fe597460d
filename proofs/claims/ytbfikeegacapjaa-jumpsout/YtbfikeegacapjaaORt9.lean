/- Rt9 -/
import Derived.Test.YtbfikeegacapjaaORl8
import Derived.Test.YtbfikeegacapjaaOTr9
import Derived.Test.YtbfikeegacapjaaONg
import Derived.Deep.RegionHeld3

namespace Go.Proofs.Ytbfikeegacapjaa
open Go.RowKit
attribute [local go_sem] run_store_complex
theorem elemInt : ElemOf Try.prog 23 3 (.int .i64 0) 1 8 := ⟨Try.underlying23, by kernel_rfl, rfl, by decide⟩
set_option maxRecDepth 100000 in
set_option maxHeartbeats 2000000 in
theorem rthreads_any (d : List Dc) (t : List (List St)) (w : World) (dv tv : Value) (hd : DsIn w 0 w.heap.size d dv) (ht : TsIn w 0 w.heap.size t tv) (hn : (flatTs t).length ≤ 1073741824) :
    Calls Try.prog 24 #[.agg #[dv, tv]] w fun r w' => ∃ v', r = .returned v' ∧ ValsD w' (Rng w.heap.size w'.heap.size) (thrs 0 t) v' ∧ Kept w w' := by
  have HA : Hid _ := ht
  obtain ⟨ad, capd, rfl, -⟩ := hd.open
  obtain ⟨a, cap, rfl, hl, hl2, hcap⟩ := ht.open
  clear hd ht
  go_enter Try.func24, Try.ntmps24
  go_wp2_with fail
  obtain ⟨W0, hW0⟩ : ∃ W0, w.alloc (.cells #[.slice ad d.length capd, .slice a t.length cap] 27) = W0 := ⟨_, rfl⟩
  have HW0 : Hid (Kept w W0 ∧ W0.heap.size = w.heap.size + 1 ∧ W0.cell? ⟨w.heap.size, 1, none⟩ = some (.slice a t.length cap)) := by rw [← hW0]; exact ⟨(Kept.refl _).al _, by simp, by simp⟩
  rw [hW0]
  clear hW0
  go_loopw [3, 4] (fun list i wr => ∃ (k : Nat) (a1 : Option Addr) (n1 q1 : Nat), list = .slice a1 n1 q1 ∧ i = .int .i64 (k : Int) ∧ k ≤ t.length ∧ Hid (wr.ownsRow W0.heap.size 3 1 (.slice a1 n1 q1) (thrs 0 (t.take k)).length (thrs 0 (t.take k)) ∧ Kept W0 wr)) (fun _ i _ => t.length - (intOf i).toNat)
  case atStart => exact ⟨0, _, _, _, rfl, rfl, Nat.zero_le _, ⟨rfl, .inl ⟨rfl, rfl⟩⟩, Kept.refl _⟩
  case round =>
    obtain ⟨k, ax, nx, qx, rfl, rfl, hk, HI⟩ := hrel
    have hz := HI.out.2.size
    have hzw := HW0.out.1.size
    have b1 : wr.cell? ⟨w.heap.size, 1, none⟩ = some (.slice a t.length cap) := HI.out.2.cellS HW0.out.2.2
    by_cases hlt : k < t.length
    · have hki : (k : Int) < (t.length : Int) := by omega
      obtain ⟨b, o, a1, n1, q1, rfl, _, hb, _, c0, k1⟩ := HA.out.item ((HW0.out.1.then HI.out.2).stays (Nat.le_refl _)) k hlt
      have hft := flatTs_take t k hlt
      have hftl := flatTs_take_len t (k + 1)
      have htl := thrs_len 0 (t.take k)
      obtain ⟨m, hm⟩ : ∃ m, St.sizes t[k] = m := ⟨_, rfl⟩
      have hlb : (thrs 0 (t.take k)).length + m ≤ 1073741824 := by
        rw [hft, List.length_append, St.flats_len] at hftl
        omega
      have HT : Hid (thrs 0 (t.take (k + 1)) = thrs 0 (t.take k) ++ List.replicate m (.int .i64 (k : Int))) := by
        have := thrs_take t k hlt
        rwa [hm] at this
      have P : Hid (Calls Try.prog 40 #[.slice a1 n1 q1] wr fun r w' => ∃ a8 q8, r = .returned (.slice a8 m q8) ∧ Kept wr w') := by
        refine (rlblock_any t[k] wr w.heap.size _ (by omega) k1 (by omega)).mono ?_
        rintro r w6 ⟨v6, ps6, rfl, ho6, hm6, hg6⟩
        obtain ⟨a8, q8, rfl, -⟩ := own_slice ho6.row
        have : ps6.length = m := by rw [own_len hm6, St.flats_len]; exact hm
        rw [this]
        exact ⟨a8, q8, rfl, hg6⟩
      obtain ⟨xs, hxs⟩ : ∃ xs, thrs 0 (t.take k) = xs := ⟨_, rfl⟩
      rw [hxs] at HT HI hlb
      clear hft hftl htl k1 hm hxs
      go_wp2_with fail
      refine Calls.mono P.out ?_
      rintro r w3 ⟨a8, q8, rfl, kw⟩
      have HI3 : Hid (w3.ownsRow W0.heap.size 3 1 (.slice ax nx qx) xs.length xs ∧ Kept W0 w3) := ⟨HI.out.1.kept (Grow.kept (.slice none 0 0) kw).grown (by cases (Value.slice ax nx qx).ownBlock <;> simp [Value.ownBlock]), HI.out.2.then kw⟩
      clear kw
      go_wp2_with fail
      go_loopw [3, 5] (fun list i w' => ∃ (j : Nat) (a2 : Option Addr) (n2 q2 : Nat), list = .slice a2 n2 q2 ∧ i = .int .i64 ((m - j : Nat) : Int) ∧ j ≤ m ∧ Hid (w'.ownsRow W0.heap.size 3 1 (.slice a2 n2 q2) (xs ++ List.replicate j (Value.int .i64 (k : Int))).length (xs ++ List.replicate j (Value.int .i64 (k : Int))) ∧ Kept W0 w')) (fun _ i _ => (intOf i).toNat)
      case atStart => exact ⟨0, _, _, _, rfl, rfl, Nat.zero_le _, by simpa only [List.replicate_zero, List.append_nil] using HI3⟩
      case round =>
        obtain ⟨j, a2, n2, q2, rfl, rfl, hj, HJ⟩ := hrel
        obtain ⟨x, hx⟩ : ∃ x, m - j = x := ⟨_, rfl⟩
        rw [hx]
        have HX : Hid (m - j = x) := hx
        clear hx
        by_cases hjm : j < m
        · have hji : (0 : Int) < (x : Int) := by have := HX.out; omega
          have hxb : (x : Int) ≤ 1073741824 := by have := HX.out; omega
          obtain ⟨ys, hys⟩ : ∃ ys, xs ++ List.replicate j (Value.int .i64 (k : Int)) = ys := ⟨_, rfl⟩
          have hyl : ys.length ≤ 1073741824 := by rw [← hys, List.length_append, List.length_replicate]; omega
          have HY : Hid (xs ++ List.replicate (j + 1) (Value.int .i64 (k : Int)) = ys ++ [Value.int .i64 (k : Int)]) := by
            show _ = _
            rw [List.replicate_succ', ← List.append_assoc, hys]
          rw [hys] at HJ
          clear hys
          go_wp2_with (at_builtin; (refine wpList_append_rows (base := W0.heap.size) (n := ys.length) (xs := ys) (by rfl) _ _ _ (by rfl) elemInt (by rfl) (HJ.out.1.alloc _) (by rfl) (own_lit 0 3 1 _ (by rfl) (Nat.zero_le _)) ?one (by omega) ?len ?base ?_))
          case one => rfl
          case len => unfold maxLen; omega
          case base => have := HJ.out.2.size; simp; omega
          intro ad cap2 w4 HG
          have HN4 : Hid (w4.ownsRow W0.heap.size 3 1 (.slice ad (ys.length + 1) cap2) (ys ++ [Value.int .i64 (k : Int)]).length (ys ++ [Value.int .i64 (k : Int)]) ∧ Kept W0 w4) :=
            ⟨by rw [List.length_append]; exact HG.out.own, HG.out.below (HJ.out.1.alloc _) (Nat.le_refl _) (by have := HJ.out.2.size; simp; omega) (HJ.out.2.al _)⟩
          clear HG
          go_wp2_with fail
          go_roundw
          case rel => exact ⟨j + 1, _, _, _, rfl, congrArg (Value.int .i64) (by have := HX.out; omega), by omega, by rw [HY.out]; exact HN4⟩
          case measure => simp [intOf]; omega
        · have hji : ¬ (0 : Int) < (x : Int) := by have := HX.out; omega
          obtain rfl : j = m := by omega
          go_wp2_with fail
          go_roundw
          case rel => exact ⟨k + 1, _, _, _, rfl, by go_num, by omega, by rw [HT.out]; exact HJ⟩
          case measure => simp [intOf]; omega
    · have hki : ¬ (k : Int) < (t.length : Int) := by omega
      have HM : Hid (ValsD wr (Rng w.heap.size wr.heap.size) (thrs 0 t) (.slice ax nx qx) ∧ Kept w wr) := by
        have h1 := HI.out
        rw [List.take_of_length_le (by omega)] at h1
        exact ⟨vals_of_own h1.1 fun i hi => by have := h1.1.lt i hi; exact ⟨by omega, this.2⟩, HW0.out.1.then h1.2⟩
      go_wp2_with fail
      go_ret
      exact ⟨_, rfl, HM.out.1, HM.out.2⟩
end Go.Proofs.Ytbfikeegacapjaa
