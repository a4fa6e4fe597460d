/- Tk1 -/
import Derived.Test.YtnfkjmafhaecgaaYNm5

namespace Go.Proofs.Ytnfkjmafhaecgaa
open Go.RowKit
theorem letter_any (c : UInt8) (w : World) : Calls Try.prog 64 #[.int .u8 (c.toNat : Int)] w fun e w' => e = .returned (.bool (Lx.lower c)) ∧ w' = w := by
  have H : Hid (Lx.lower c = _) := lower_def c
  generalize (c.toNat : Int) = x at *
  by_cases h : 97 ≤ x
  · go_enter Try.func64, Try.ntmps64
    go_wp2
    go_ret
    exact ⟨ret_bool (by rw [H.out]; simp [h]), rfl⟩
  · have hd : decide (97 ≤ x) = false := decide_eq_false h
    go_enter Try.func64, Try.ntmps64
    go_wp2
    go_ret
    exact ⟨ret_bool (by rw [H.out, hd]; rfl), rfl⟩
set_option maxHeartbeats 400000 in
theorem digit_any (c : UInt8) (w : World) : Calls Try.prog 65 #[.int .u8 (c.toNat : Int)] w fun e w' => e = .returned (.bool (Lx.digit c)) ∧ w' = w := by
  have H : Hid (Lx.digit c = _) := digit_def c
  generalize (c.toNat : Int) = x at *
  by_cases h : 48 ≤ x
  · go_enter Try.func65, Try.ntmps65
    go_wp2
    go_ret
    exact ⟨ret_bool (by rw [H.out]; simp [h]), rfl⟩
  · have hd : decide (48 ≤ x) = false := decide_eq_false h
    go_enter Try.func65, Try.ntmps65
    go_wp2
    go_ret
    exact ⟨ret_bool (by rw [H.out, hd]; rfl), rfl⟩
theorem letter_at (c : UInt8) (r : Bool) (h : Lx.lower c = r) (w : World) : Calls Try.prog 64 #[.int .u8 (c.toNat : Int)] w fun e w' => e = .returned (.bool r) ∧ w' = w := h ▸ letter_any c w
theorem digit_at (c : UInt8) (r : Bool) (h : Lx.digit c = r) (w : World) : Calls Try.prog 65 #[.int .u8 (c.toNat : Int)] w fun e w' => e = .returned (.bool r) ∧ w' = w := h ▸ digit_any c w
theorem digit_bd (c : UInt8) (h : Lx.digit c = true) : 48 ≤ (c.toNat : Int) ∧ (c.toNat : Int) ≤ 57 := by
  have := (Lx.digit_iff c).1 h
  omega
theorem val_step (d : ByteArray) (k : Nat) (h : k < d.size) (hd : Lx.digit d[k] = true) : (Lx.val (d.data.toList.take (k + 1)) : Int) = 10 * (Lx.val (d.data.toList.take k) : Int) + ((d[k].toNat : Int) - 48) := by
  have hl : k < d.data.toList.length := by simpa using h
  rw [Lx.val_snoc _ k hl]
  have e : d.data.toList[k] = d[k] := by rw [Array.getElem_toList]; rfl
  rw [e]
  have := (Lx.digit_iff d[k]).1 hd
  omega
set_option maxHeartbeats 1000000 in
theorem number_fit (d : ByteArray) (b : Bool) (w : World) (hs : d.size ≤ 6000) (h0 : 0 < d.size) (hd : ∀ k (hk : k < d.size), Lx.digit d[k] = true) (hv : Lx.val d.data.toList < 9223372036854775808)
    (hb : (d[0] ≠ 48 ∧ b = true) ∨ (d[0] = 48 ∧ (d.toList == [48]) = b)) :
    Calls Try.prog 66 #[.string d] w fun e w' => e = .returned (.tuple #[.int .i64 (Lx.val d.data.toList : Int), .bool b]) ∧ w' = w := by
  have D : Hid (∀ k (hk : k < d.size), Lx.digit d[k] = true) := hd
  have V : Hid (Lx.val d.data.toList < 9223372036854775808) := hv
  clear hd hv
  go_enter Try.func66, Try.ntmps66
  go_wp2
  go_loop [4, 5] (fun n i => ∃ (k : Nat) (a : Int), k ≤ d.size ∧ i = .int .i64 (k : Int) ∧ n = .int .i64 a ∧ Hid (a = (Lx.val (d.data.toList.take k) : Int))) (fun _ i => d.size - (intOf i).toNat)
  case atStart => exact ⟨0, 0, Nat.zero_le _, rfl, rfl, rfl⟩
  case round =>
    obtain ⟨k, a, hk, rfl, rfl, ha⟩ := hrel
    have hle := Lx.val_take_le d.data.toList k
    have ha0 : 0 ≤ a := by rw [ha.out]; omega
    have ha1 : a ≤ 9223372036854775807 := by rw [ha.out]; have := V.out; omega
    clear hle
    by_cases hlt : k < d.size
    · have hki : (k : Int) < (d.size : Int) := by omega
      obtain ⟨x1, x2⟩ := digit_bd d[k] (D.out k hlt)
      obtain ⟨dd, hdd⟩ : ∃ dd : Int, (d[k].toNat : Int) - 48 = dd := ⟨_, rfl⟩
      have hmod : ((d[k].toNat : Int) - 48) % 256 = dd := by omega
      have hst := val_step d k hlt (D.out k hlt)
      have hub := Lx.val_take_le d.data.toList (k + 1)
      have hV := V.out
      rw [← ha.out, hdd] at hst
      have NX : Hid ((Lx.val (d.data.toList.take (k + 1)) : Int) = 10 * a + dd) := hst
      have hub2 : 10 * a + dd ≤ 9223372036854775807 := by omega
      have d0 : 0 ≤ dd := by omega
      have d9 : dd ≤ 9 := by omega
      clear hst hub hV hdd
      have hc1 : decide ((9223372036854775807 - dd) / 10 < a) = false := decide_eq_false (by omega)
      have hc2 : decide ((9223372036854775807 - dd).tdiv 10 < a) = false := decide_eq_false (by rw [Int.tdiv_eq_ediv_of_nonneg (by omega)]; omega)
      go_wp2
      go_round
      case rel => exact ⟨k + 1, _, by omega, by go_num, rfl, by show _ = _; rw [NX.out]; omega⟩
      case measure => simp [intOf]; omega
    · obtain rfl : k = d.size := by omega
      have HV : Hid (a = (Lx.val d.data.toList : Int)) := by
        have := ha.out
        rw [List.take_of_length_le (by simp)] at this
        exact this
      have hll : d.data.toList.length = d.size := by simp
      have he : (d.toList == []) = false := by
        rw [ByteArray.toList_eq]
        cases hl : d.data.toList with
        | nil => rw [hl] at hll; simp at hll; omega
        | cons c r => rfl
      have hen : (d.toList != []) = true := by rw [bne, he]; rfl
      have hi0 : (0 : Int) < (d.size : Int) := by omega
      clear hll ha
      rcases hb with ⟨h1, rfl⟩ | ⟨h1, h2⟩
      · have e48 : ((d[0].toNat : Int) == 48) = false := by
          rw [beq_eq_false_iff_ne]; intro e; apply h1; apply UInt8.toNat_inj.1; show _ = 48; omega
        have e48n : ((d[0].toNat : Int) != 48) = true := by rw [bne, e48]; rfl
        clear h1
        go_wp2
        go_ret2
        exact ⟨by rw [← HV.out]; rfl, rfl⟩
      · have e48 : ((d[0].toNat : Int) == 48) = true := by rw [h1]; rfl
        have e48n : ((d[0].toNat : Int) != 48) = false := by rw [bne, e48]; rfl
        clear h1
        go_wp2
        go_ret2
        exact ⟨by rw [← HV.out]; rfl, rfl⟩
set_option maxHeartbeats 1000000 in
theorem number_over (d : ByteArray) (n : Nat) (w : World) (hs : d.size ≤ 6000) (hn : n < d.size) (hd : ∀ k (hk : k < d.size), Lx.digit d[k] = true) (hlo : Lx.val (d.data.toList.take n) < 9223372036854775808) (hhi : 9223372036854775808 ≤ Lx.val (d.data.toList.take (n + 1))) :
    Calls Try.prog 66 #[.string d] w fun e w' => e = .returned (.tuple #[.int .i64 0, .bool false]) ∧ w' = w := by
  have D : Hid (∀ k (hk : k < d.size), Lx.digit d[k] = true) := hd
  have LO : Hid (Lx.val (d.data.toList.take n) < 9223372036854775808) := hlo
  have HI : Hid (9223372036854775808 ≤ Lx.val (d.data.toList.take (n + 1))) := hhi
  clear hd hlo hhi
  go_enter Try.func66, Try.ntmps66
  go_wp2
  go_loop [4, 5] (fun m i => ∃ (k : Nat) (a : Int), k ≤ n ∧ i = .int .i64 (k : Int) ∧ m = .int .i64 a ∧ Hid (a = (Lx.val (d.data.toList.take k) : Int))) (fun _ i => d.size - (intOf i).toNat)
  case atStart => exact ⟨0, 0, Nat.zero_le _, rfl, rfl, rfl⟩
  case round =>
    obtain ⟨k, a, hk, rfl, rfl, ha⟩ := hrel
    have hle : Lx.val (d.data.toList.take k) ≤ Lx.val (d.data.toList.take n) := by
      have := Lx.val_take_le (d.data.toList.take n) k
      rwa [List.take_take, Nat.min_eq_left hk] at this
    have ha0 : 0 ≤ a := by rw [ha.out]; omega
    have ha1 : a ≤ 9223372036854775807 := by rw [ha.out]; have := LO.out; omega
    have hlt : k < d.size := by omega
    have hki : (k : Int) < (d.size : Int) := by omega
    obtain ⟨x1, x2⟩ := digit_bd d[k] (D.out k hlt)
    obtain ⟨dd, hdd⟩ : ∃ dd : Int, (d[k].toNat : Int) - 48 = dd := ⟨_, rfl⟩
    have hmod : ((d[k].toNat : Int) - 48) % 256 = dd := by omega
    have hst := val_step d k hlt (D.out k hlt)
    rw [← ha.out, hdd] at hst
    have d0 : 0 ≤ dd := by omega
    have d9 : dd ≤ 9 := by omega
    by_cases hkn : k < n
    · have hub : Lx.val (d.data.toList.take (k + 1)) ≤ Lx.val (d.data.toList.take n) := by
        have := Lx.val_take_le (d.data.toList.take n) (k + 1)
        rwa [List.take_take, Nat.min_eq_left (by omega)] at this
      have hV := LO.out
      have NX : Hid ((Lx.val (d.data.toList.take (k + 1)) : Int) = 10 * a + dd) := hst
      have hub2 : 10 * a + dd ≤ 9223372036854775807 := by omega
      clear hst hub hV hdd hle
      have hc1 : decide ((9223372036854775807 - dd) / 10 < a) = false := decide_eq_false (by omega)
      have hc2 : decide ((9223372036854775807 - dd).tdiv 10 < a) = false := decide_eq_false (by rw [Int.tdiv_eq_ediv_of_nonneg (by omega)]; omega)
      go_wp2
      go_round
      case rel => exact ⟨k + 1, _, by omega, by go_num, rfl, by show _ = _; rw [NX.out]; omega⟩
      case measure => simp [intOf]; omega
    · obtain rfl : k = n := by omega
      have hV := HI.out
      have hc0 : (9223372036854775807 - dd) / 10 < a := by omega
      have hc1 : decide ((9223372036854775807 - dd) / 10 < a) = true := decide_eq_true hc0
      have hc2 : decide ((9223372036854775807 - dd).tdiv 10 < a) = true := decide_eq_true (by rw [Int.tdiv_eq_ediv_of_nonneg (by omega)]; exact hc0)
      clear hst hV hdd hle
      go_wp2
      go_ret2
      exact ⟨rfl, rfl⟩
theorem over_at (d : List UInt8) (h : 9223372036854775808 ≤ Lx.val d) : ∃ n, n < d.length ∧ Lx.val (d.take n) < 9223372036854775808 ∧ 9223372036854775808 ≤ Lx.val (d.take (n + 1)) := by
  have key : ∀ m, m ≤ d.length → 9223372036854775808 ≤ Lx.val (d.take m) → ∃ n, n < m ∧ Lx.val (d.take n) < 9223372036854775808 ∧ 9223372036854775808 ≤ Lx.val (d.take (n + 1)) := by
    intro m
    induction m with
    | zero => intro _ h; rw [List.take_zero] at h; exact absurd h (by decide)
    | succ m ih =>
      intro hm hv
      by_cases h2 : 9223372036854775808 ≤ Lx.val (d.take m)
      · obtain ⟨n, h3, h4⟩ := ih (by omega) h2
        exact ⟨n, by omega, h4⟩
      · exact ⟨m, by omega, by omega, hv⟩
  obtain ⟨n, h1, h2⟩ := key d.length (Nat.le_refl _) (by rw [List.take_length]; exact h)
  exact ⟨n, h1, h2⟩
theorem dnumber_any (d : ByteArray) (o : Option Nat) (hd : ∀ c ∈ d.data.toList, Lx.digit c = true) (hne : d.data.toList ≠ []) (hs : d.size ≤ 6000) (ho : Lx.num d.data.toList = o) (w : World) :
    Calls Try.prog 66 #[.string d] w fun e w' => (∃ v : Int, e = .returned (.tuple #[.int .i64 v, .bool o.isSome]) ∧ ∀ m, o = some m → v = (m : Int)) ∧ w' = w := by
  have hll : d.data.toList.length = d.size := by simp
  have h0 : 0 < d.size := by rw [← hll]; exact List.length_pos_iff.2 hne
  have hk : ∀ k (hk : k < d.size), Lx.digit d[k] = true := fun k hk => by
    have e : d.data.toList[k]'(by omega) = d[k] := by rw [Array.getElem_toList]; rfl
    rw [← e]; exact hd _ (List.getElem_mem _)
  subst ho
  unfold Lx.num
  rw [head_byte d h0]
  by_cases hv : Lx.val d.data.toList < 9223372036854775808
  · by_cases h48 : d[0] = 48
    · by_cases h1 : d.size = 1
      · have hb : (d.toList == [48]) = true := by
          rw [ByteArray.toList_eq]
          match hl : d.data.toList, hll with
          | [c], _ =>
            have : d.data.toList[0]'(by omega) = d[0] := by rw [Array.getElem_toList]; rfl
            rw [h48] at this
            simp [hl] at this
            subst this
            rfl
          | [], h => simp at h; omega
          | _ :: _ :: _, h => simp at h; omega
        rw [if_neg (by omega), if_pos hv]
        exact (number_fit d true w hs h0 hk hv (.inr ⟨h48, hb⟩)).mono fun e w' ⟨he, hw⟩ => ⟨⟨_, he, fun m hm => by rw [Option.some.inj hm]⟩, hw⟩
      · have hb : (d.toList == [48]) = false := by
          rw [beq_eq_false_iff_ne, ByteArray.toList_eq]
          intro e
          rw [e] at hll
          simp at hll
          omega
        rw [if_pos ⟨by omega, by rw [h48]⟩]
        exact (number_fit d false w hs h0 hk hv (.inr ⟨h48, hb⟩)).mono fun e w' ⟨he, hw⟩ => ⟨⟨_, he, fun m hm => by cases hm⟩, hw⟩
    · rw [if_neg (by simp [h48]), if_pos hv]
      exact (number_fit d true w hs h0 hk hv (.inl ⟨h48, rfl⟩)).mono fun e w' ⟨he, hw⟩ => ⟨⟨_, he, fun m hm => by rw [Option.some.inj hm]⟩, hw⟩
  · obtain ⟨n, hn, h1, h2⟩ := over_at d.data.toList (by omega)
    have hno : (if 1 < d.data.toList.length ∧ some d[0] = some 48 then none else if Lx.val d.data.toList < 9223372036854775808 then some (Lx.val d.data.toList) else none) = (none : Option Nat) := by
      rw [if_neg hv]; split <;> rfl
    rw [hno]
    exact (number_over d n w hs (by omega) hk h1 h2).mono fun e w' ⟨he, hw⟩ => ⟨⟨_, he, fun m hm => by cases hm⟩, hw⟩
/-- A reference token as a value. -/
def rtk (s : ByteArray) (kd k e n : Nat) : Value := .agg #[.int .i64 (kd : Int), .string (s.extract k e), .int .i64 (n : Int), .int .i64 (k : Int)]
def rzero : Value := .agg #[.int .i64 0, .string ⟨#[]⟩, .int .i64 0, .int .i64 0]
set_option maxHeartbeats 1000000 in
theorem rone_word (s : ByteArray) (k e : Nat) (w : World) (hs : s.size ≤ 6000) (hk : k < s.size) (hl : Lx.lower s[k] = true) (hke : k ≤ e) (hes : e < s.size) (hsp : Lx.span Lx.goes s.data.toList (k + 1) = e + 1) (h12 : e + 1 - k ≤ 12) :
    Calls Try.prog 56 #[.string s, .int .i64 (k : Int)] w fun r w' => r = .returned (.tuple #[rtk s 1 k (e + 1) 0, .int .i64 ((e + 1 - k : Nat) : Int)]) ∧ Kept w w' := by
  have L : Hid (∀ w, _) := letter_at s[k] true hl
  have SP : Hid (Lx.span Lx.goes s.data.toList (k + 1) = e + 1) := hsp
  have hki : (k : Int) < (s.size : Int) := by omega
  clear hl hsp
  go_enter Try.func56, Try.ntmps56
  go_wp2_with fail
  refine (L.out _).mono ?_
  rintro r w1 ⟨rfl, rfl⟩
  go_wp2_with fail
  go_loop [7] (fun to => ∃ x : Nat, k + 1 ≤ x ∧ x ≤ e + 1 ∧ to = .int .i64 (x : Int) ∧ Lx.span Lx.goes s.data.toList x = e + 1) (fun to => s.size - (intOf to).toNat)
  case atStart => exact ⟨k + 1, Nat.le_refl _, by omega, by go_num, SP.out⟩
  case round =>
    obtain ⟨x, hx1, hx2, rfl, hx3⟩ := hrel
    have HX : Hid (Lx.span Lx.goes s.data.toList x = e + 1) := hx3
    clear hx3
    by_cases hlt : x < e + 1
    · have hxs : x < s.size := by omega
      have hxi : (x : Int) < (s.size : Int) := by omega
      have hg : Lx.goes s[x] = true := by
        cases h : Lx.goes s[x] with
        | true => rfl
        | false =>
          have := Lx.span_no Lx.goes s.data.toList x (by simpa using hxs) (by rw [byte_at s x hxs]; exact h)
          rw [HX.out] at this
          omega
      have NX : Hid (Lx.span Lx.goes s.data.toList (x + 1) = e + 1) := by
        show _ = _
        rw [← Lx.span_yes Lx.goes s.data.toList x (by simpa using hxs) (by rw [byte_at s x hxs]; exact hg)]; exact HX.out
      unfold Lx.goes at hg
      cases hl : Lx.lower s[x] with
      | true =>
        have L2 : Hid (∀ w, _) := letter_at s[x] true hl
        clear hg hl
        go_wp2_with fail
        refine (L2.out _).mono ?_
        rintro r w1 ⟨rfl, rfl⟩
        go_wp2
        go_round
        case rel => exact ⟨x + 1, by omega, by omega, by go_num, NX.out⟩
        case measure => simp [intOf]; omega
      | false =>
        rw [hl] at hg
        have L2 : Hid (∀ w, _) := letter_at s[x] false hl
        have D2 : Hid (∀ w, _) := digit_at s[x] true (by simpa using hg)
        clear hg hl
        go_wp2_with fail
        refine (L2.out _).mono ?_
        rintro r w1 ⟨rfl, rfl⟩
        go_wp2_with fail
        refine (D2.out _).mono ?_
        rintro r w1 ⟨rfl, rfl⟩
        go_wp2
        go_round
        case rel => exact ⟨x + 1, by omega, by omega, by go_num, NX.out⟩
        case measure => simp [intOf]; omega
    · obtain rfl : x = e + 1 := by omega
      have hle : decide ((12 : Int) < ((e + 1 : Nat) : Int) - (k : Int)) = false := decide_eq_false (by omega)
      have hb1 : (k : Int) ≤ ((e + 1 : Nat) : Int) := by omega
      have hb2 : ((e + 1 : Nat) : Int) ≤ (s.size : Int) := by omega
      by_cases hxs : e + 1 < s.size
      · have hxi : ((e + 1 : Nat) : Int) < (s.size : Int) := by omega
        have hg : Lx.goes s[e + 1] = false := by
          cases h : Lx.goes s[e + 1] with
          | false => rfl
          | true =>
            have := Lx.span_yes Lx.goes s.data.toList (e + 1) (by simpa using hxs) (by rw [byte_at s (e + 1) hxs]; exact h)
            rw [HX.out] at this
            have h2 := Lx.le_span Lx.goes s.data.toList (e + 1 + 1)
            omega
        unfold Lx.goes at hg
        have hl : Lx.lower s[e + 1] = false := by cases h : Lx.lower s[e + 1] with | false => rfl | true => rw [h] at hg; cases hg
        rw [hl] at hg
        have L2 : Hid (∀ w, _) := letter_at s[e + 1] false hl
        have D2 : Hid (∀ w, _) := digit_at s[e + 1] false (by simpa using hg)
        clear hg hl
        go_wp2_with fail
        refine (L2.out _).mono ?_
        rintro r w1 ⟨rfl, rfl⟩
        go_wp2_with fail
        refine (D2.out _).mono ?_
        rintro r w1 ⟨rfl, rfl⟩
        go_wp2
        refine bodyPost_ret (v := .tuple #[rtk s 1 k (e + 1) 0, .int .i64 ((e + 1 - k : Nat) : Int)]) ?_ rfl ⟨rfl, (Kept.refl w).alloc (Nat.le_refl _) _⟩
        simp [results, Try.results56, go_sem, rtk]
        omega
      · have hxi : decide (((e + 1 : Nat) : Int) < (s.size : Int)) = false := decide_eq_false (by omega)
        go_wp2
        refine bodyPost_ret (v := .tuple #[rtk s 1 k (e + 1) 0, .int .i64 ((e + 1 - k : Nat) : Int)]) ?_ rfl ⟨rfl, (Kept.refl w).alloc (Nat.le_refl _) _⟩
        simp [results, Try.results56, go_sem, rtk]
        omega
set_option maxHeartbeats 1000000 in
theorem rone_long (s : ByteArray) (k e : Nat) (w : World) (hs : s.size ≤ 6000) (hk : k < s.size) (hl : Lx.lower s[k] = true) (hke : k ≤ e) (hes : e < s.size) (hsp : Lx.span Lx.goes s.data.toList (k + 1) = e + 1) (h12 : 12 < e + 1 - k) :
    Calls Try.prog 56 #[.string s, .int .i64 (k : Int)] w fun r w' => r = .returned (.tuple #[rzero, .int .i64 0]) ∧ Kept w w' := by
  have L : Hid (∀ w, _) := letter_at s[k] true hl
  have SP : Hid (Lx.span Lx.goes s.data.toList (k + 1) = e + 1) := hsp
  have hki : (k : Int) < (s.size : Int) := by omega
  clear hl hsp
  go_enter Try.func56, Try.ntmps56
  go_wp2_with fail
  refine (L.out _).mono ?_
  rintro r w1 ⟨rfl, rfl⟩
  go_wp2_with fail
  go_loop [7] (fun to => ∃ x : Nat, k + 1 ≤ x ∧ x ≤ e + 1 ∧ to = .int .i64 (x : Int) ∧ Lx.span Lx.goes s.data.toList x = e + 1) (fun to => s.size - (intOf to).toNat)
  case atStart => exact ⟨k + 1, Nat.le_refl _, by omega, by go_num, SP.out⟩
  case round =>
    obtain ⟨x, hx1, hx2, rfl, hx3⟩ := hrel
    have HX : Hid (Lx.span Lx.goes s.data.toList x = e + 1) := hx3
    clear hx3
    by_cases hlt : x < e + 1
    · have hxs : x < s.size := by omega
      have hxi : (x : Int) < (s.size : Int) := by omega
      have hg : Lx.goes s[x] = true := by
        cases h : Lx.goes s[x] with
        | true => rfl
        | false =>
          have := Lx.span_no Lx.goes s.data.toList x (by simpa using hxs) (by rw [byte_at s x hxs]; exact h)
          rw [HX.out] at this
          omega
      have NX : Hid (Lx.span Lx.goes s.data.toList (x + 1) = e + 1) := by
        show _ = _
        rw [← Lx.span_yes Lx.goes s.data.toList x (by simpa using hxs) (by rw [byte_at s x hxs]; exact hg)]; exact HX.out
      unfold Lx.goes at hg
      cases hl : Lx.lower s[x] with
      | true =>
        have L2 : Hid (∀ w, _) := letter_at s[x] true hl
        clear hg hl
        go_wp2_with fail
        refine (L2.out _).mono ?_
        rintro r w1 ⟨rfl, rfl⟩
        go_wp2
        go_round
        case rel => exact ⟨x + 1, by omega, by omega, by go_num, NX.out⟩
        case measure => simp [intOf]; omega
      | false =>
        rw [hl] at hg
        have L2 : Hid (∀ w, _) := letter_at s[x] false hl
        have D2 : Hid (∀ w, _) := digit_at s[x] true (by simpa using hg)
        clear hg hl
        go_wp2_with fail
        refine (L2.out _).mono ?_
        rintro r w1 ⟨rfl, rfl⟩
        go_wp2_with fail
        refine (D2.out _).mono ?_
        rintro r w1 ⟨rfl, rfl⟩
        go_wp2
        go_round
        case rel => exact ⟨x + 1, by omega, by omega, by go_num, NX.out⟩
        case measure => simp [intOf]; omega
    · obtain rfl : x = e + 1 := by omega
      have hle : decide ((12 : Int) < ((e + 1 : Nat) : Int) - (k : Int)) = true := decide_eq_true (by omega)
      have hb1 : (k : Int) ≤ ((e + 1 : Nat) : Int) := by omega
      have hb2 : ((e + 1 : Nat) : Int) ≤ (s.size : Int) := by omega
      by_cases hxs : e + 1 < s.size
      · have hxi : ((e + 1 : Nat) : Int) < (s.size : Int) := by omega
        have hg : Lx.goes s[e + 1] = false := by
          cases h : Lx.goes s[e + 1] with
          | false => rfl
          | true =>
            have := Lx.span_yes Lx.goes s.data.toList (e + 1) (by simpa using hxs) (by rw [byte_at s (e + 1) hxs]; exact h)
            rw [HX.out] at this
            have h2 := Lx.le_span Lx.goes s.data.toList (e + 1 + 1)
            omega
        unfold Lx.goes at hg
        have hl : Lx.lower s[e + 1] = false := by cases h : Lx.lower s[e + 1] with | false => rfl | true => rw [h] at hg; cases hg
        rw [hl] at hg
        have L2 : Hid (∀ w, _) := letter_at s[e + 1] false hl
        have D2 : Hid (∀ w, _) := digit_at s[e + 1] false (by simpa using hg)
        clear hg hl
        go_wp2_with fail
        refine (L2.out _).mono ?_
        rintro r w1 ⟨rfl, rfl⟩
        go_wp2_with fail
        refine (D2.out _).mono ?_
        rintro r w1 ⟨rfl, rfl⟩
        go_wp2
        refine bodyPost_ret (v := .tuple #[rzero, .int .i64 0]) ?_ rfl ⟨rfl, (Kept.refl w).alloc (Nat.le_refl _) _⟩
        simp [results, Try.results56, go_sem, rzero]
      · have hxi : decide (((e + 1 : Nat) : Int) < (s.size : Int)) = false := decide_eq_false (by omega)
        go_wp2
        refine bodyPost_ret (v := .tuple #[rzero, .int .i64 0]) ?_ rfl ⟨rfl, (Kept.refl w).alloc (Nat.le_refl _) _⟩
        simp [results, Try.results56, go_sem, rzero]
set_option maxHeartbeats 1000000 in
theorem rone_num (s : ByteArray) (k e : Nat) (w : World) (hs : s.size ≤ 6000) (hk : k < s.size) (hl : Lx.lower s[k] = false) (hd : Lx.digit s[k] = true) (hke : k ≤ e) (hes : e < s.size) (hsp : Lx.span Lx.digit s.data.toList (k + 1) = e + 1) (m : Nat) (hN : Hid (∀ w, Calls Try.prog 66 #[.string (s.extract k (e + 1))] w fun r w' => (∃ v : Int, r = .returned (.tuple #[.int .i64 v, .bool true]) ∧ v = (m : Int)) ∧ w' = w)) :
    Calls Try.prog 56 #[.string s, .int .i64 (k : Int)] w fun r w' => r = .returned (.tuple #[rtk s 2 k (e + 1) m, .int .i64 ((e + 1 - k : Nat) : Int)]) ∧ Kept w w' := by
  have L : Hid (∀ w, _) := letter_at s[k] false hl
  have D : Hid (∀ w, _) := digit_at s[k] true hd
  have SP : Hid (Lx.span Lx.digit s.data.toList (k + 1) = e + 1) := hsp
  have hki : (k : Int) < (s.size : Int) := by omega
  clear hl hsp hd
  go_enter Try.func56, Try.ntmps56
  go_wp2_with fail
  refine (L.out _).mono ?_
  rintro r w1 ⟨rfl, rfl⟩
  go_wp2_with fail
  refine (D.out _).mono ?_
  rintro r w1 ⟨rfl, rfl⟩
  go_wp2_with fail
  go_loop [7] (fun to => ∃ x : Nat, k + 1 ≤ x ∧ x ≤ e + 1 ∧ to = .int .i64 (x : Int) ∧ Lx.span Lx.digit s.data.toList x = e + 1) (fun to => s.size - (intOf to).toNat)
  case atStart => exact ⟨k + 1, Nat.le_refl _, by omega, by go_num, SP.out⟩
  case round =>
    obtain ⟨x, hx1, hx2, rfl, hx3⟩ := hrel
    have HX : Hid (Lx.span Lx.digit s.data.toList x = e + 1) := hx3
    clear hx3
    by_cases hlt : x < e + 1
    · have hxs : x < s.size := by omega
      have hxi : (x : Int) < (s.size : Int) := by omega
      have hg : Lx.digit s[x] = true := by
        cases h : Lx.digit s[x] with
        | true => rfl
        | false =>
          have := Lx.span_no Lx.digit s.data.toList x (by simpa using hxs) (by rw [byte_at s x hxs]; exact h)
          rw [HX.out] at this
          omega
      have NX : Hid (Lx.span Lx.digit s.data.toList (x + 1) = e + 1) := by
        show _ = _
        rw [← Lx.span_yes Lx.digit s.data.toList x (by simpa using hxs) (by rw [byte_at s x hxs]; exact hg)]; exact HX.out
      have D2 : Hid (∀ w, _) := digit_at s[x] true hg
      clear hg
      go_wp2_with fail
      refine (D2.out _).mono ?_
      rintro r w1 ⟨rfl, rfl⟩
      go_wp2
      go_round
      case rel => exact ⟨x + 1, by omega, by omega, by go_num, NX.out⟩
      case measure => simp [intOf]; omega
    · obtain rfl : x = e + 1 := by omega
      have hb1 : (k : Int) ≤ ((e + 1 : Nat) : Int) := by omega
      have hb2 : ((e + 1 : Nat) : Int) ≤ (s.size : Int) := by omega
      by_cases hxs : e + 1 < s.size
      · have hxi : ((e + 1 : Nat) : Int) < (s.size : Int) := by omega
        have hg : Lx.digit s[e + 1] = false := by
          cases h : Lx.digit s[e + 1] with
          | false => rfl
          | true =>
            have := Lx.span_yes Lx.digit s.data.toList (e + 1) (by simpa using hxs) (by rw [byte_at s (e + 1) hxs]; exact h)
            rw [HX.out] at this
            have h2 := Lx.le_span Lx.digit s.data.toList (e + 1 + 1)
            omega
        have D2 : Hid (∀ w, _) := digit_at s[e + 1] false hg
        clear hg
        go_wp2_with fail
        refine (D2.out _).mono ?_
        rintro r w1 ⟨rfl, rfl⟩
        go_wp2_with fail
        refine (hN.out _).mono ?_
        rintro r w1 ⟨⟨v, rfl, rfl⟩, rfl⟩
        go_wp2
        refine bodyPost_ret (v := .tuple #[rtk s 2 k (e + 1) m, .int .i64 ((e + 1 - k : Nat) : Int)]) ?_ rfl ⟨rfl, (Kept.refl _).alloc (Nat.le_refl _) _⟩
        simp [results, Try.results56, go_sem, rtk]
        omega
      · have hxi : decide (((e + 1 : Nat) : Int) < (s.size : Int)) = false := decide_eq_false (by omega)
        go_wp2_with fail
        refine (hN.out _).mono ?_
        rintro r w1 ⟨⟨v, rfl, rfl⟩, rfl⟩
        go_wp2
        refine bodyPost_ret (v := .tuple #[rtk s 2 k (e + 1) m, .int .i64 ((e + 1 - k : Nat) : Int)]) ?_ rfl ⟨rfl, (Kept.refl _).alloc (Nat.le_refl _) _⟩
        simp [results, Try.results56, go_sem, rtk]
        omega
set_option maxHeartbeats 1000000 in
theorem rone_none (s : ByteArray) (k e : Nat) (w : World) (hs : s.size ≤ 6000) (hk : k < s.size) (hl : Lx.lower s[k] = false) (hd : Lx.digit s[k] = true) (hke : k ≤ e) (hes : e < s.size) (hsp : Lx.span Lx.digit s.data.toList (k + 1) = e + 1) (hN : Hid (∀ w, Calls Try.prog 66 #[.string (s.extract k (e + 1))] w fun r w' => (∃ v : Int, r = .returned (.tuple #[.int .i64 v, .bool false])) ∧ w' = w)) :
    Calls Try.prog 56 #[.string s, .int .i64 (k : Int)] w fun r w' => r = .returned (.tuple #[rzero, .int .i64 0]) ∧ Kept w w' := by
  have L : Hid (∀ w, _) := letter_at s[k] false hl
  have D : Hid (∀ w, _) := digit_at s[k] true hd
  have SP : Hid (Lx.span Lx.digit s.data.toList (k + 1) = e + 1) := hsp
  have hki : (k : Int) < (s.size : Int) := by omega
  clear hl hsp hd
  go_enter Try.func56, Try.ntmps56
  go_wp2_with fail
  refine (L.out _).mono ?_
  rintro r w1 ⟨rfl, rfl⟩
  go_wp2_with fail
  refine (D.out _).mono ?_
  rintro r w1 ⟨rfl, rfl⟩
  go_wp2_with fail
  go_loop [7] (fun to => ∃ x : Nat, k + 1 ≤ x ∧ x ≤ e + 1 ∧ to = .int .i64 (x : Int) ∧ Lx.span Lx.digit s.data.toList x = e + 1) (fun to => s.size - (intOf to).toNat)
  case atStart => exact ⟨k + 1, Nat.le_refl _, by omega, by go_num, SP.out⟩
  case round =>
    obtain ⟨x, hx1, hx2, rfl, hx3⟩ := hrel
    have HX : Hid (Lx.span Lx.digit s.data.toList x = e + 1) := hx3
    clear hx3
    by_cases hlt : x < e + 1
    · have hxs : x < s.size := by omega
      have hxi : (x : Int) < (s.size : Int) := by omega
      have hg : Lx.digit s[x] = true := by
        cases h : Lx.digit s[x] with
        | true => rfl
        | false =>
          have := Lx.span_no Lx.digit s.data.toList x (by simpa using hxs) (by rw [byte_at s x hxs]; exact h)
          rw [HX.out] at this
          omega
      have NX : Hid (Lx.span Lx.digit s.data.toList (x + 1) = e + 1) := by
        show _ = _
        rw [← Lx.span_yes Lx.digit s.data.toList x (by simpa using hxs) (by rw [byte_at s x hxs]; exact hg)]; exact HX.out
      have D2 : Hid (∀ w, _) := digit_at s[x] true hg
      clear hg
      go_wp2_with fail
      refine (D2.out _).mono ?_
      rintro r w1 ⟨rfl, rfl⟩
      go_wp2
      go_round
      case rel => exact ⟨x + 1, by omega, by omega, by go_num, NX.out⟩
      case measure => simp [intOf]; omega
    · obtain rfl : x = e + 1 := by omega
      have hb1 : (k : Int) ≤ ((e + 1 : Nat) : Int) := by omega
      have hb2 : ((e + 1 : Nat) : Int) ≤ (s.size : Int) := by omega
      by_cases hxs : e + 1 < s.size
      · have hxi : ((e + 1 : Nat) : Int) < (s.size : Int) := by omega
        have hg : Lx.digit s[e + 1] = false := by
          cases h : Lx.digit s[e + 1] with
          | false => rfl
          | true =>
            have := Lx.span_yes Lx.digit s.data.toList (e + 1) (by simpa using hxs) (by rw [byte_at s (e + 1) hxs]; exact h)
            rw [HX.out] at this
            have h2 := Lx.le_span Lx.digit s.data.toList (e + 1 + 1)
            omega
        have D2 : Hid (∀ w, _) := digit_at s[e + 1] false hg
        clear hg
        go_wp2_with fail
        refine (D2.out _).mono ?_
        rintro r w1 ⟨rfl, rfl⟩
        go_wp2_with fail
        refine (hN.out _).mono ?_
        rintro r w1 ⟨⟨v, rfl⟩, rfl⟩
        go_wp2
        refine bodyPost_ret (v := .tuple #[rzero, .int .i64 0]) ?_ rfl ⟨rfl, (Kept.refl _).alloc (Nat.le_refl _) _⟩
        simp [results, Try.results56, go_sem, rzero]
      · have hxi : decide (((e + 1 : Nat) : Int) < (s.size : Int)) = false := decide_eq_false (by omega)
        go_wp2_with fail
        refine (hN.out _).mono ?_
        rintro r w1 ⟨⟨v, rfl⟩, rfl⟩
        go_wp2
        refine bodyPost_ret (v := .tuple #[rzero, .int .i64 0]) ?_ rfl ⟨rfl, (Kept.refl _).alloc (Nat.le_refl _) _⟩
        simp [results, Try.results56, go_sem, rzero]
end Go.Proofs.Ytnfkjmafhaecgaa
