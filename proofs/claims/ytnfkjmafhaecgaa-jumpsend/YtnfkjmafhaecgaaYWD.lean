/- WD -/
import Derived.Test.YtnfkjmafhaecgaaYNm5

namespace Go.Proofs.Ytnfkjmafhaecgaa
open Go.RowKit
set_option maxHeartbeats 400000 in
theorem within_any (n l h : Int) (w : World) :
    Calls Try.prog 67 #[.int .i64 n, .int .i64 l, .int .i64 h] w fun e w' => e = .returned (.int .i64 (max l (min h n))) ∧ w' = w := by
  go_enter Try.func67, Try.ntmps67
  go_wp2
  all_goals
    go_ret
    exact ⟨ret_int (by omega), rfl⟩
set_option maxHeartbeats 1000000 in
theorem spot_any (s : ByteArray) (a : Int) (w : World) (hs : s.size ≤ 1125899906842624) :
    Calls Try.prog 58 #[.string s, .int .i64 a] w fun e w' => e = .returned (.tuple #[.int .i64 ((Sp.spot (s.data.toList.take (clampAt a s.size))).1 : Nat), .int .i64 ((Sp.spot (s.data.toList.take (clampAt a s.size))).2 : Nat)]) ∧ w' = w := by
  obtain ⟨n, hn⟩ : ∃ n : Nat, clampAt a s.size = n := ⟨_, rfl⟩
  rw [hn]
  have hnl : n ≤ s.size := by unfold clampAt at hn; omega
  have hW : Hid (∀ w, Calls Try.prog 67 #[.int .i64 a, .int .i64 0, .int .i64 (s.size : Int)] w fun e w' => e = .returned (.int .i64 (n : Int)) ∧ w' = w) := by
    intro w
    have := within_any a 0 (s.size : Int) w
    rwa [show max 0 (min (s.size : Int) a) = (n : Int) by unfold clampAt at hn; omega] at this
  clear hn
  go_enter Try.func58, Try.ntmps58
  go_wp2_with (go_at_call 67; refine (hW.out _).mono ?_; rintro e w' ⟨rfl, rfl⟩)
  go_loop [6, 7, 8] (fun l c i => ∃ k : Nat, k ≤ n ∧ i = .int .i64 k ∧ l = .int .i64 ((Sp.spot (s.data.toList.take k)).1 : Nat) ∧ c = .int .i64 ((Sp.spot (s.data.toList.take k)).2 : Nat)) (fun _ _ i => n - (intOf i).toNat)
  case atStart => exact ⟨0, Nat.zero_le _, rfl, rfl, rfl⟩
  case round =>
    obtain ⟨k, hk, rfl, rfl, rfl⟩ := hrel
    by_cases hlt : k < n
    · have hl : k < s.data.toList.length := by simp; omega
      have hks : k < s.size := by omega
      have e2 : s.data.toList[k] = s[k] := by rw [Array.getElem_toList]; rfl
      have ES := Sp.spot_succ s.data.toList k hl
      rw [e2] at ES
      have b := Sp.spot_le (s.data.toList.take k)
      have b2 : (s.data.toList.take k).length ≤ k := List.length_take_le _ _
      generalize Sp.spot (s.data.toList.take k) = p at *
      obtain ⟨l, c⟩ := p
      simp only at b
      have HS : Hid (Sp.spot (s.data.toList.take (k + 1)) = Sp.on (l, c) s[k]) := ES
      have bl : (l : Int) ≤ 1125899906842626 := by omega
      have bc : (c : Int) ≤ 1125899906842626 := by omega
      clear ES e2 b b2 hl
      by_cases hc : s[k] = 10
      · have t : (((s[k]).toNat : Int) == 10) = true := by rw [hc]; rfl
        have HC : Hid (s[k] = 10) := hc
        clear hc
        go_wp2
        go_round
        case rel => exact ⟨k + 1, by omega, by go_num, by rw [HS.out]; simp [Sp.on, HC.out], by rw [HS.out]; simp [Sp.on, HC.out]⟩
        case measure => simp [intOf]; omega
      · have t : (((s[k]).toNat : Int) == 10) = false := by rw [beq_eq_false_iff_ne]; intro e; apply hc; apply UInt8.toNat_inj.1; show _ = 10; omega
        have HC : Hid (¬ s[k] = 10) := hc
        clear hc
        go_wp2
        go_round
        case rel => exact ⟨k + 1, by omega, by go_num, by rw [HS.out]; simp [Sp.on, HC.out], by rw [HS.out]; simp [Sp.on, HC.out]⟩
        case measure => simp [intOf]; omega
    · have hkn : k = n := by omega
      subst hkn
      go_wp2
      go_ret2
      exact ⟨rfl, rfl⟩
set_option maxHeartbeats 400000 in
theorem place_any (s : ByteArray) (a : Int) (w : World) (hs : s.size ≤ 1125899906842624) :
    Calls Try.prog 50 #[.string s, .int .i64 a] w fun e w' => e = .returned (.complex .f64 (lineW s (clampAt a s.size)) (colW s (clampAt a s.size))) ∧ w' = w := by
  have hS : Hid (∀ w, _) := fun w => spot_any s a w hs
  obtain ⟨k, hk⟩ : ∃ k : Nat, clampAt a s.size = k := ⟨_, rfl⟩
  rw [hk] at hS ⊢
  have hsp := Sp.spot_le (s.data.toList.take k)
  have hll : s.data.toList.length = s.size := by simp
  have hlen : (s.data.toList.take k).length ≤ s.size := by rw [List.length_take]; omega
  clear hll
  unfold lineW colW
  generalize Sp.spot (s.data.toList.take k) = p at *
  obtain ⟨l, c⟩ := p
  simp only at hsp
  have B1 : Hid (l < 9007199254740992) := by show l < _; omega
  have B2 : Hid (c < 9007199254740992) := by show c < _; omega
  clear hsp hlen hk
  go_enter Try.func50, Try.ntmps50
  go_wp2_with fail
  refine (hS.out _).mono ?_
  rintro e w1 ⟨rfl, rfl⟩
  go_wp2
  go_ret
  exact ⟨ret_cplx rfl rfl B1.out B2.out, rfl⟩
theorem place_in (s : ByteArray) (k : Nat) (hs : s.size ≤ 1125899906842624) (hk : k ≤ s.size) (w : World) :
    Calls Try.prog 50 #[.string s, .int .i64 (k : Int)] w fun e w' => e = .returned (.complex .f64 (lineW s k) (colW s k)) ∧ w' = w := by
  have := place_any s k w hs
  rwa [clamp_in k _ hk] at this
end Go.Proofs.Ytnfkjmafhaecgaa
