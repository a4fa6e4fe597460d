/- What the reference's number answers, of digits, at whatever memory. -/
import Derived.Test.YtfjeijjllgocdaaDoorKw
import Derived.Test.YtfjeijjllgocdaaDoorWalksB
namespace Go.Proofs.YtfjeijjllgocdaaDoor
open Go.RowKit

theorem digit_bd (c : UInt8) (h : Lx.digit c = true) : 48 ≤ (c.toNat : Int) ∧ (c.toNat : Int) ≤ 57 := by
  have := (Lx.digit_iff c).1 h
  omega

theorem val_step (d : ByteArray) (k : Nat) (h : k < d.size) (hd : Lx.digit d[k] = true) : (Lx.val (d.data.toList.take (k + 1)) : Int) = 10 * (Lx.val (d.data.toList.take k) : Int) + ((d[k].toNat : Int) - 48) := by
  have hl : k < d.data.toList.length := by simpa using h
  rw [Lx.val_snoc _ k hl]
  have e : d.data.toList[k] = d[k] := by rw [Array.getElem_toList]; rfl
  rw [e]
  have := (Lx.digit_iff d[k]).1 hd
  omega

set_option maxHeartbeats 1000000 in
theorem number_fit (d : ByteArray) (b : Bool) (w : World) (hs : d.size ≤ 6000) (h0 : 0 < d.size) (hd : ∀ k (hk : k < d.size), Lx.digit d[k] = true) (hv : Lx.val d.data.toList < 9223372036854775808)
    (hb : (d[0] ≠ 48 ∧ b = true) ∨ (d[0] = 48 ∧ (d.toList == [48]) = b)) :
    Calls Tryd.prog 34 #[.string d] w fun e w' => e = .returned (.tuple #[.int .i64 (Lx.val d.data.toList : Int), .bool b]) ∧ w' = w := by
  have D : Hid (∀ k (hk : k < d.size), Lx.digit d[k] = true) := hd
  have V : Hid (Lx.val d.data.toList < 9223372036854775808) := hv
  clear hd hv
  go_enter Tryd.func34, Tryd.ntmps34
  go_wp2
  go_loop [4, 5] (fun n i => ∃ (k : Nat) (a : Int), k ≤ d.size ∧ i = .int .i64 (k : Int) ∧ n = .int .i64 a ∧ Hid (a = (Lx.val (d.data.toList.take k) : Int))) (fun _ i => d.size - (intOf i).toNat)
  case atStart => exact ⟨0, 0, Nat.zero_le _, rfl, rfl, rfl⟩
  case round =>
    obtain ⟨k, a, hk, rfl, rfl, ha⟩ := hrel
    have hle := Lx.val_take_le d.data.toList k
    have ha0 : 0 ≤ a := by rw [ha.out]; omega
    have ha1 : a ≤ 9223372036854775807 := by rw [ha.out]; have := V.out; omega
    clear hle
    by_cases hlt : k < d.size
    · have hki : (k : Int) < (d.size : Int) := by omega
      obtain ⟨x1, x2⟩ := digit_bd d[k] (D.out k hlt)
      obtain ⟨dd, hdd⟩ : ∃ dd : Int, (d[k].toNat : Int) - 48 = dd := ⟨_, rfl⟩
      have hmod : ((d[k].toNat : Int) - 48) % 256 = dd := by omega
      have hst := val_step d k hlt (D.out k hlt)
      have hub := Lx.val_take_le d.data.toList (k + 1)
      have hV := V.out
      rw [← ha.out, hdd] at hst
      have NX : Hid ((Lx.val (d.data.toList.take (k + 1)) : Int) = 10 * a + dd) := hst
      have hub2 : 10 * a + dd ≤ 9223372036854775807 := by omega
      have d0 : 0 ≤ dd := by omega
      have d9 : dd ≤ 9 := by omega
      clear hst hub hV hdd
      have hc1 : decide ((9223372036854775807 - dd) / 10 < a) = false := decide_eq_false (by omega)
      have hc2 : decide ((9223372036854775807 - dd).tdiv 10 < a) = false := decide_eq_false (by rw [Int.tdiv_eq_ediv_of_nonneg (by omega)]; omega)
      go_wp2
      go_round
      case rel => exact ⟨k + 1, _, by omega, by go_num, rfl, by show _ = _; rw [NX.out]; omega⟩
      case measure => simp [intOf]; omega
    · obtain rfl : k = d.size := by omega
      have HV : Hid (a = (Lx.val d.data.toList : Int)) := by
        have := ha.out
        rw [List.take_of_length_le (by simp)] at this
        exact this
      have hll : d.data.toList.length = d.size := by simp
      have he : (d.toList == []) = false := by
        rw [ByteArray.toList_eq]
        cases hl : d.data.toList with
        | nil => rw [hl] at hll; simp at hll; omega
        | cons c r => rfl
      have hen : (d.toList != []) = true := by rw [bne, he]; rfl
      have hi0 : (0 : Int) < (d.size : Int) := by omega
      clear hll ha
      rcases hb with ⟨h1, rfl⟩ | ⟨h1, h2⟩
      · have e48 : ((d[0].toNat : Int) == 48) = false := by
          rw [beq_eq_false_iff_ne]; intro e; apply h1; apply UInt8.toNat_inj.1; show _ = 48; omega
        have e48n : ((d[0].toNat : Int) != 48) = true := by rw [bne, e48]; rfl
        clear h1
        go_wp2
        go_ret2
        exact ⟨by rw [← HV.out]; rfl, rfl⟩
      · have e48 : ((d[0].toNat : Int) == 48) = true := by rw [h1]; rfl
        have e48n : ((d[0].toNat : Int) != 48) = false := by rw [bne, e48]; rfl
        clear h1
        go_wp2
        go_ret2
        exact ⟨by rw [← HV.out]; rfl, rfl⟩

set_option maxHeartbeats 1000000 in
theorem number_over (d : ByteArray) (n : Nat) (w : World) (hs : d.size ≤ 6000) (hn : n < d.size) (hd : ∀ k (hk : k < d.size), Lx.digit d[k] = true) (hlo : Lx.val (d.data.toList.take n) < 9223372036854775808) (hhi : 9223372036854775808 ≤ Lx.val (d.data.toList.take (n + 1))) :
    Calls Tryd.prog 34 #[.string d] w fun e w' => e = .returned (.tuple #[.int .i64 0, .bool false]) ∧ w' = w := by
  have D : Hid (∀ k (hk : k < d.size), Lx.digit d[k] = true) := hd
  have LO : Hid (Lx.val (d.data.toList.take n) < 9223372036854775808) := hlo
  have HI : Hid (9223372036854775808 ≤ Lx.val (d.data.toList.take (n + 1))) := hhi
  clear hd hlo hhi
  go_enter Tryd.func34, Tryd.ntmps34
  go_wp2
  go_loop [4, 5] (fun m i => ∃ (k : Nat) (a : Int), k ≤ n ∧ i = .int .i64 (k : Int) ∧ m = .int .i64 a ∧ Hid (a = (Lx.val (d.data.toList.take k) : Int))) (fun _ i => d.size - (intOf i).toNat)
  case atStart => exact ⟨0, 0, Nat.zero_le _, rfl, rfl, rfl⟩
  case round =>
    obtain ⟨k, a, hk, rfl, rfl, ha⟩ := hrel
    have hle : Lx.val (d.data.toList.take k) ≤ Lx.val (d.data.toList.take n) := by
      have := Lx.val_take_le (d.data.toList.take n) k
      rwa [List.take_take, Nat.min_eq_left hk] at this
    have ha0 : 0 ≤ a := by rw [ha.out]; omega
    have ha1 : a ≤ 9223372036854775807 := by rw [ha.out]; have := LO.out; omega
    have hlt : k < d.size := by omega
    have hki : (k : Int) < (d.size : Int) := by omega
    obtain ⟨x1, x2⟩ := digit_bd d[k] (D.out k hlt)
    obtain ⟨dd, hdd⟩ : ∃ dd : Int, (d[k].toNat : Int) - 48 = dd := ⟨_, rfl⟩
    have hmod : ((d[k].toNat : Int) - 48) % 256 = dd := by omega
    have hst := val_step d k hlt (D.out k hlt)
    rw [← ha.out, hdd] at hst
    have d0 : 0 ≤ dd := by omega
    have d9 : dd ≤ 9 := by omega
    by_cases hkn : k < n
    · have hub : Lx.val (d.data.toList.take (k + 1)) ≤ Lx.val (d.data.toList.take n) := by
        have := Lx.val_take_le (d.data.toList.take n) (k + 1)
        rwa [List.take_take, Nat.min_eq_left (by omega)] at this
      have hV := LO.out
      have NX : Hid ((Lx.val (d.data.toList.take (k + 1)) : Int) = 10 * a + dd) := hst
      have hub2 : 10 * a + dd ≤ 9223372036854775807 := by omega
      clear hst hub hV hdd hle
      have hc1 : decide ((9223372036854775807 - dd) / 10 < a) = false := decide_eq_false (by omega)
      have hc2 : decide ((9223372036854775807 - dd).tdiv 10 < a) = false := decide_eq_false (by rw [Int.tdiv_eq_ediv_of_nonneg (by omega)]; omega)
      go_wp2
      go_round
      case rel => exact ⟨k + 1, _, by omega, by go_num, rfl, by show _ = _; rw [NX.out]; omega⟩
      case measure => simp [intOf]; omega
    · obtain rfl : k = n := by omega
      have hV := HI.out
      have hc0 : (9223372036854775807 - dd) / 10 < a := by omega
      have hc1 : decide ((9223372036854775807 - dd) / 10 < a) = true := decide_eq_true hc0
      have hc2 : decide ((9223372036854775807 - dd).tdiv 10 < a) = true := decide_eq_true (by rw [Int.tdiv_eq_ediv_of_nonneg (by omega)]; exact hc0)
      clear hst hV hdd hle
      go_wp2
      go_ret2
      exact ⟨rfl, rfl⟩

theorem over_at (d : List UInt8) (h : 9223372036854775808 ≤ Lx.val d) : ∃ n, n < d.length ∧ Lx.val (d.take n) < 9223372036854775808 ∧ 9223372036854775808 ≤ Lx.val (d.take (n + 1)) := by
  have key : ∀ m, m ≤ d.length → 9223372036854775808 ≤ Lx.val (d.take m) → ∃ n, n < m ∧ Lx.val (d.take n) < 9223372036854775808 ∧ 9223372036854775808 ≤ Lx.val (d.take (n + 1)) := by
    intro m
    induction m with
    | zero => intro _ h; rw [List.take_zero] at h; exact absurd h (by decide)
    | succ m ih =>
      intro hm hv
      by_cases h2 : 9223372036854775808 ≤ Lx.val (d.take m)
      · obtain ⟨n, h3, h4⟩ := ih (by omega) h2
        exact ⟨n, by omega, h4⟩
      · exact ⟨m, by omega, by omega, hv⟩
  obtain ⟨n, h1, h2⟩ := key d.length (Nat.le_refl _) (by rw [List.take_length]; exact h)
  exact ⟨n, h1, h2⟩

theorem number_any (d : ByteArray) (o : Option Nat) (hd : ∀ c ∈ d.data.toList, Lx.digit c = true) (hne : d.data.toList ≠ []) (hs : d.size ≤ 6000) (ho : Lx.num d.data.toList = o) (w : World) :
    Calls Tryd.prog 34 #[.string d] w fun e w' => (∃ v : Int, e = .returned (.tuple #[.int .i64 v, .bool o.isSome]) ∧ ∀ m, o = some m → v = (m : Int)) ∧ w' = w := by
  have hll : d.data.toList.length = d.size := by simp
  have h0 : 0 < d.size := by rw [← hll]; exact List.length_pos_iff.2 hne
  have hk : ∀ k (hk : k < d.size), Lx.digit d[k] = true := fun k hk => by
    have e : d.data.toList[k]'(by omega) = d[k] := by rw [Array.getElem_toList]; rfl
    rw [← e]; exact hd _ (List.getElem_mem _)
  subst ho
  unfold Lx.num
  rw [head_byte d h0]
  by_cases hv : Lx.val d.data.toList < 9223372036854775808
  · by_cases h48 : d[0] = 48
    · by_cases h1 : d.size = 1
      · have hb : (d.toList == [48]) = true := by
          rw [ByteArray.toList_eq]
          match hl : d.data.toList, hll with
          | [c], _ =>
            have : d.data.toList[0]'(by omega) = d[0] := by rw [Array.getElem_toList]; rfl
            rw [h48] at this
            simp [hl] at this
            subst this
            rfl
          | [], h => simp at h; omega
          | _ :: _ :: _, h => simp at h; omega
        rw [if_neg (by omega), if_pos hv]
        exact (number_fit d true w hs h0 hk hv (.inr ⟨h48, hb⟩)).mono fun e w' ⟨he, hw⟩ => ⟨⟨_, he, fun m hm => by rw [Option.some.inj hm]⟩, hw⟩
      · have hb : (d.toList == [48]) = false := by
          rw [beq_eq_false_iff_ne, ByteArray.toList_eq]
          intro e
          rw [e] at hll
          simp at hll
          omega
        rw [if_pos ⟨by omega, by rw [h48]⟩]
        exact (number_fit d false w hs h0 hk hv (.inr ⟨h48, hb⟩)).mono fun e w' ⟨he, hw⟩ => ⟨⟨_, he, fun m hm => by cases hm⟩, hw⟩
    · rw [if_neg (by simp [h48]), if_pos hv]
      exact (number_fit d true w hs h0 hk hv (.inl ⟨h48, rfl⟩)).mono fun e w' ⟨he, hw⟩ => ⟨⟨_, he, fun m hm => by rw [Option.some.inj hm]⟩, hw⟩
  · obtain ⟨n, hn, h1, h2⟩ := over_at d.data.toList (by omega)
    have hno : (if 1 < d.data.toList.length ∧ some d[0] = some 48 then none else if Lx.val d.data.toList < 9223372036854775808 then some (Lx.val d.data.toList) else none) = (none : Option Nat) := by
      rw [if_neg hv]; split <;> rfl
    rw [hno]
    exact (number_over d n w hs (by omega) hk h1 h2).mono fun e w' ⟨he, hw⟩ => ⟨⟨_, he, fun m hm => by cases hm⟩, hw⟩

end Go.Proofs.YtfjeijjllgocdaaDoor
